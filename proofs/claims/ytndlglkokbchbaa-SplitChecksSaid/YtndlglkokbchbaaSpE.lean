/-
  Package split: Check.
-/
import Derived.Test.YtndlglkokbchbaaSpD
namespace Go.Proofs.Ytndlglkokbchbaa.split
open Go.ChangeShapes Go.WideShapes Go.ChangeAt Go.RowKit Go.Shelf
set_option linter.unusedVariables false
set_option linter.unusedSimpArgs false

theorem eq_any (x p : Pt) (y : Nat) (w : World) (hy : w.heap[y]? = some (oP p)) : Calls Try.prog 23 #[pv x, .pointer (some ⟨y, 0, none⟩)] w fun e w' => e = .returned (.bool (x.s == p.s)) ∧ Bl w w' := by
  obtain ⟨b0, b1⟩ := two (blk_bl hy ((Bl.rfl' w).al (oP x)))
  obtain ⟨x0, x1⟩ := two (heap_alloc_new w (oP x))
  obtain ⟨xs, xw⟩ := x
  obtain ⟨ps, pw⟩ := p
  go_enter Try.func23, Try.ntmps23
  go_wp2_with fail
  go_ret
  exact ⟨rfl, (Bl.rfl' w).al _⟩

/-- Is one of the first k of that service? -/
def twiceB (R : List Pt) (k : Nat) (s : Int) : Bool := (R.take k).any fun x => x.s == s
theorem twice_succ (R : List Pt) (k : Nat) (s : Int) (h : k < R.length) : twiceB R (k + 1) s = (twiceB R k s || ((R.getD k p0).s == s)) := by
  unfold twiceB
  rw [List.take_succ_eq_append_getElem h, List.any_append, List.getD, List.getElem?_eq_getElem h]
  simp
theorem twice_no {R : List Pt} {s : Int} : ∀ {k m : Nat}, twiceB R m s = false → k ≤ m → twiceB R k s = false := by
  intro k m h hk
  unfold twiceB at *
  rw [List.any_eq_false] at h ⊢
  intro x hx
  exact h x ((List.take_sublist_take_left hk).subset hx)
theorem twice_yes {R : List Pt} {s : Int} {k m : Nat} (h : twiceB R k s = true) (hk : k ≤ m) : twiceB R m s = true := by
  cases hm : twiceB R m s with
  | true => rfl
  | false => rw [twice_no hm hk] at h; cases h

set_option maxHeartbeats 4000000 in
theorem index_any (R : List Pt) (n : Nat) (hn : n ≤ R.length) (hl : R.length ≤ 1000) (cap g o : Nat) (a : Option Addr) (p : Pt) (y : Nat) (w : World) (hr : RowZ w g o a R) (hy : w.heap[y]? = some (oP p)) :
    Calls Try.prog 25 #[.slice a n cap, .func (.func 23) #[] #[.pointer (some ⟨y, 0, none⟩)]] w fun e w' => ∃ k : Int, e = .returned (I k) ∧ (decide (0 ≤ k) = twiceB R n p.s) ∧ Bl w w' := by
  have EQ := Lib.hid (fun x w' (hb : Bl w w') => eq_any x p y w' (blk_bl hy hb))
  have RC := Lib.hid (fun w' (hb : Bl w w') i hi => (hr.bl hb).c i hi)
  have hs := fun k hk => twice_succ R k p.s hk
  have h0 : twiceB R 0 p.s = false := rfl
  have hy1 := fun k (h : twiceB R k p.s = true) hk => twice_yes (m := n) h hk
  obtain ⟨T, hT⟩ : ∃ z_, (fun k => twiceB R k p.s) = z_ := ⟨_, rfl⟩
  have hT' : ∀ k, twiceB R k p.s = T k := fun k => congrFun hT k
  simp only [hT'] at hs h0 hy1 ⊢
  clear hr hy hT hT'
  replace hs := Lib.hid hs
  replace h0 := Lib.hid h0
  replace hy1 := Lib.hid hy1
  go_enter Try.func25, Try.ntmps25
  go_wp2_with fail
  go_loopw [5, 8] (fun j i wr => ∃ k : Nat, k ≤ n ∧ i = I k ∧ T k = false ∧ Bl w wr) (fun _ i _ => n - (intOf i).toNat)
  case atStart => exact ⟨0, by omega, rfl, h0.out, Bl.rfl' _⟩
  case round =>
    obtain ⟨k, hk, rfl, hTk, hb⟩ := hrel
    by_cases hlt : k < n
    · obtain ⟨ha, hcc⟩ := RC.out _ hb k (by omega)
      subst ha
      have c0 := hcc 0 (by decide)
      have c1 := hcc 1 (by decide)
      simp only [List.getElem?_cons_succ, List.getElem?_cons_zero, Nat.add_zero, ← Nat.add_assoc] at c0 c1
      have hsk := hs.out k (by omega)
      rw [hTk, Bool.false_or] at hsk
      have E := EQ.out (R.getD k p0) _ hb
      obtain ⟨x, hx⟩ : ∃ z_, (R.getD k p0) = z_ := ⟨_, rfl⟩
      rw [hx] at c0 c1 hsk E
      obtain ⟨f, hf⟩ : ∃ z_, (x.s == p.s) = z_ := ⟨_, rfl⟩
      rw [hf] at hsk E
      have hy2 := hy1.out (k + 1)
      have wt : IntKind.i64.wrap ((k : Int) + 1) = ((k + 1 : Nat) : Int) := by rw [IntKind.wrap_i64]; omega
      clear hcc hx hf
      replace hb := Lib.hid hb
      replace hsk := Lib.hid hsk
      replace E := Lib.hid E
      replace hy2 := Lib.hid hy2
      cases f with
      | true =>
        go_wp2_with fail
        with_reducible refine (E.out).mono ?_
        rintro e w2 ⟨rfl, hb2⟩
        go_wp2_with fail
        go_ret
        exact ⟨_, rfl, by rw [hy2.out hsk.out (by omega)]; exact decide_eq_true (by omega), hb.out.tr hb2⟩
      | false =>
        go_wp2_with fail
        with_reducible refine (E.out).mono ?_
        rintro e w2 ⟨rfl, hb2⟩
        have hb3 := hb.out.tr hb2
        replace hb2 := Lib.hid hb2
        replace hb3 := Lib.hid hb3
        go_wp2_with fail
        go_roundw
        case rel => exact ⟨k + 1, by omega, by first | rfl | go_num, hsk.out, hb3.out⟩
        case measure => simp [intOf] <;> omega
    · obtain rfl : k = n := by omega
      replace hb := Lib.hid hb
      replace hTk := Lib.hid hTk
      go_wp2_with fail
      go_ret
      exact ⟨_, rfl, by rw [hTk.out]; rfl, hb.out⟩

theorem contains_any (R : List Pt) (n : Nat) (hn : n ≤ R.length) (hl : R.length ≤ 1000) (cap g o : Nat) (a : Option Addr) (p : Pt) (y : Nat) (w : World) (hr : RowZ w g o a R) (hy : w.heap[y]? = some (oP p)) :
    Calls Try.prog 22 #[.slice a n cap, .func (.func 23) #[] #[.pointer (some ⟨y, 0, none⟩)]] w fun e w' => e = .returned (.bool (twiceB R n p.s)) ∧ Bl w w' := by
  have IX := Lib.hid (index_any R n hn hl cap g o a p y w hr hy)
  clear hr hy
  obtain ⟨T, hT⟩ : ∃ z_, (twiceB R n p.s) = z_ := ⟨_, rfl⟩
  rw [hT] at IX
  rw [hT]
  clear hT
  go_enter Try.func22, Try.ntmps22
  go_wp2_with fail
  with_reducible refine (IX.out).mono ?_
  rintro e w2 ⟨k, rfl, hk, hb2⟩
  have hk2 : decide (k ≥ 0) = T := hk
  replace hb2 := Lib.hid hb2
  go_wp2_with fail
  go_ret
  exact ⟨by first | rfl | (rw [← hk]; rfl), hb2.out⟩
end Go.Proofs.Ytndlglkokbchbaa.split
