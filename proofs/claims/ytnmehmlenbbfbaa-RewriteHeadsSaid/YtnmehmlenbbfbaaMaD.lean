/-
  Package match: begins, On, rank.
-/
import Derived.Test.YtnmehmlenbbfbaaMaC
import Derived.Test.YtnmehmlenbbfbaaShelf
namespace Go.Proofs.Ytnmehmlenbbfbaa.mat
open Go.ChangeShapes Go.WideShapes Go.ChangeAt Go.RowKit
open Go.Proofs.Ytnmehmlenbbfbaa.heads
set_option linter.unusedVariables false
set_option linter.unusedSimpArgs false

theorem eq_sl (s : ByteArray) : (s.toList == [47]) = decide (s = sl) := by
  have h := txt_eq s sl
  rw [show sl.toList = [47] by rw [ByteArray.toList_eq]] at h
  exact h
def bgF (path by' : ByteArray) : Bool := decide (by' = sl) || Lib.hasPrefix path.data.toList (by' ++ sl).data.toList
theorem begins_any (s b : ByteArray) (w : World) (hb : b.size ≤ 1000000) :
    Calls Try.prog 41 #[S s, S b] w fun e w' => e = .returned (.bool (bgF s b)) ∧ w = w' := by
  have he := eq_sl b
  have ad := fun w => run_string_add_sum (P := Try.prog) w b sl (by show b.size + 1 ≤ _; omega)
  have HP := Lib.hid (fun w => Try.strings_HasPrefix s (b ++ sl) w)
  by_cases h : b = sl
  · have hx : bgF s b = true := by unfold bgF; rw [decide_eq_true h]; rfl
    rw [decide_eq_true h] at he
    rw [hx]
    clear hx h ad HP
    go_enter Try.func41, Try.ntmps41
    go_wp2_with fail
    go_ret
    exact ⟨rfl, rfl⟩
  · have hx : bgF s b = Lib.hasPrefix s.data.toList (b ++ sl).data.toList := by unfold bgF; rw [decide_eq_false h]; rfl
    rw [decide_eq_false h] at he
    rw [hx]
    obtain ⟨r, hr⟩ : ∃ z_, (Lib.hasPrefix s.data.toList (b ++ sl).data.toList) = z_ := ⟨_, rfl⟩
    rw [hr] 
    simp only [hr] at HP
    obtain ⟨z, hz⟩ : ∃ z_, (b ++ sl) = z_ := ⟨_, rfl⟩
    simp only [hz] at ad HP
    clear hx h hr hz
    go_enter Try.func41, Try.ntmps41
    go_wp2_with fail
    with_reducible refine (HP.out _).mono ?_
    rintro e w' ⟨rfl, rfl⟩
    go_wp2_with fail
    go_ret
    exact ⟨rfl, rfl⟩

abbrev mV (p : ByteArray) (x : Bool) (v : Value) : Value := .agg #[S p, .bool x, v]
abbrev oM (p : ByteArray) (x : Bool) (v : Value) : Obj := .cells #[S p, .bool x, v] 25
def onF (p : ByteArray) (x : Bool) (path : ByteArray) : Bool := pathF path && (decide (path = p) || (!x && bgF path p))
set_option maxHeartbeats 2000000 in
theorem on_any (p : ByteArray) (x : Bool) (v : Value) (path : ByteArray) (w : World) (hs : path.size ≤ 1000000) (hp : p.size ≤ 1000000) :
    Calls Try.prog 21 #[mV p x v, S path] w fun e w' => e = .returned (.bool (onF p x path)) ∧ Bl w w' := by
  have PT := Lib.hid (path_any path (w.alloc (oM p x v)) hs)
  have hb := (Bl.rfl' w).al (oM p x v)
  have hX := heap_alloc_new w (oM p x v)
  have BG := Lib.hid (fun w => begins_any path p w hp)
  have he := txt_eq path p
  have ho : onF p x path = (pathF path && (decide (path = p) || (!x && bgF path p))) := rfl
  rw [ho]
  obtain ⟨a, ha⟩ : ∃ z_, (pathF path) = z_ := ⟨_, rfl⟩
  rw [ha] at PT ⊢
  obtain ⟨b, hb1⟩ : ∃ z_, (bgF path p) = z_ := ⟨_, rfl⟩
  rw [hb1]
  simp only [hb1] at BG
  obtain ⟨d, hd⟩ : ∃ z_, (decide (path = p)) = z_ := ⟨_, rfl⟩
  rw [hd] at he ⊢
  clear ho ha hb1 hd
  replace hb := Lib.hid hb
  replace hX := Lib.hid hX
  cases a with
  | false =>
    clear BG he
    go_enter Try.func21, Try.ntmps21
    go_wp2_with fail
    with_reducible refine (PT.out).mono ?_
    rintro e w' ⟨rfl, hn⟩
    have hz := hb.out.tr hn
    replace hz := Lib.hid hz
    clear hn
    go_wp2_with fail
    go_ret
    exact ⟨rfl, hz.out⟩
  | true =>
    go_enter Try.func21, Try.ntmps21
    go_wp2_with fail
    with_reducible refine (PT.out).mono ?_
    rintro e w2 ⟨rfl, hn⟩
    have hz := hb.out.tr hn
    have hY := blk_bl hX.out hn
    have c0 := cell_at hY 0
    have c1 := cell_at hY 1
    simp only [List.getElem?_toArray, List.getElem?_cons_succ, List.getElem?_cons_zero] at c0 c1
    replace hz := Lib.hid hz
    replace hY := Lib.hid hY
    clear hn
    cases d with
    | true =>
      go_wp2_with fail
      go_ret
      exact ⟨rfl, hz.out⟩
    | false =>
      cases x with
      | true =>
        go_wp2_with fail
        go_ret
        exact ⟨rfl, hz.out⟩
      | false =>
        go_wp2_with fail
        with_reducible refine (BG.out _).mono ?_
        rintro e w3 ⟨rfl, rfl⟩
        go_wp2_with fail
        go_ret
        exact ⟨by cases b <;> rfl, hz.out⟩
end Go.Proofs.Ytnmehmlenbbfbaa.mat
