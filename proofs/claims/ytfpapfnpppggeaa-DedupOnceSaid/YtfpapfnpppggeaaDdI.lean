/-
  Package dedup: the document's Has, Put, Len, over a row of what was put.
-/
import Derived.Test.YtfpapfnpppggeaaDdH
import Derived.Test.YtfpapfnpppggeaaOwn
namespace Go.Proofs.Ytfpapfnpppggeaa.dedup
open Go.ChangeShapes Go.WideShapes Go.ChangeAt Go.RowKit
set_option linter.unusedVariables false
set_option linter.unusedSimpArgs false

abbrev rB (x : En) : List Value := [sV x.k, I x.a]
theorem rB_len : ∀ x, (rB x).length = 2 := fun _ => rfl
theorem infoR : (Try.prog.info? 51).map (fun i => (i.zero, i.size, i.bytes)) = some (some (.agg #[sV ⟨#[]⟩, I 0]), 2, 24) := by kernel_rfl
def inF (h now : Int) (key : ByteArray) (x : En) : Bool := decide (x.k = key) && (decide (x.a ≤ now) && decide (now < x.a + h))
abbrev Rw (w : World) (b : Nat) (v : Value) (R : List En) : Prop := OwnB rB 2 51 w b v R
def TimeR (R : List En) : Prop := ∀ x ∈ R, 0 ≤ x.a ∧ x.a ≤ 4000000000
theorem keyEq (a b : ByteArray) : (a.toList = b.toList) = (a = b) := by
  rw [ByteArray.toList_eq, ByteArray.toList_eq]
  apply propext
  constructor
  · intro h
    cases a; cases b
    simpa [Array.toList_inj] using h
  · rintro rfl; rfl
theorem getD_mem {R : List En} {i : Nat} (h : i < R.length) : R.getD i e0 ∈ R := by
  simp [List.getD, List.getElem?_eq_getElem h]


set_option maxHeartbeats 4000000 in
theorem rhas_any {w : World} {b : Nat} {v : Value} {R : List En} (ho : Rw w b v R) (hR : TimeR R) (hl : R.length ≤ 1000000) (h : Int) (h0 : 0 ≤ h) (h1 : h ≤ 1000000) (now : Int) (key : ByteArray) :
    Calls Try.prog 14 #[v, I h, I now, sV key] w fun e w' => e = .returned (.bool (R.any (inF h now key))) ∧ w = w' := by
  obtain ⟨a, g, cap, rfl, -, -, -, hr⟩ := ho.row (by decide)
  clear ho
  have hc := fun i hi => hr.c0 rB_len e0 i hi
  have ht : ∀ i, i < R.length → _ := fun i hi => hR _ (getD_mem hi)
  have hyes : ∀ i, i < R.length → inF h now key (R.getD i e0) = true → R.any (inF h now key) = true := fun i hi hp => List.any_eq_true.2 ⟨_, getD_mem hi, hp⟩
  have hno : (∀ i, i < R.length → inF h now key (R.getD i e0) = false) → R.any (inF h now key) = false := by
    intro hp
    rw [List.any_eq_false]
    intro x hx
    obtain ⟨i, hi, rfl⟩ := List.mem_iff_getElem.1 hx
    have := hp i hi
    rw [List.getD, List.getElem?_eq_getElem hi] at this
    simp only [Option.getD_some] at this
    simp [this]
  have hin : ∀ x, inF h now key x = (decide (x.k = key) && (decide (x.a ≤ now) && decide (now < x.a + h))) := fun _ => rfl
  obtain ⟨B, hB⟩ : ∃ z_, (R.any (inF h now key)) = z_ := ⟨_, rfl⟩
  simp only [hB] at hyes hno
  rw [hB]
  obtain ⟨F, hF⟩ : ∃ z_, (inF h now key) = z_ := ⟨_, rfl⟩
  simp only [hF] at hyes hno hin
  obtain ⟨L, hL⟩ : ∃ z_, (R.length) = z_ := ⟨_, rfl⟩
  simp only [hL] at hc ht hyes hno hl
  rw [hL]
  clear hB hF hL hr hR
  replace hc := Lib.hid hc
  replace ht := Lib.hid ht
  replace hyes := Lib.hid hyes
  replace hno := Lib.hid hno
  replace hin := Lib.hid hin
  go_enter Try.func14, Try.ntmps14
  go_wp2_with fail
  go_loopw [9] (fun i wr => ∃ k : Nat, k ≤ L ∧ i = I k ∧ w = wr ∧ ∀ j, j < k → F (R.getD j e0) = false) (fun i _ => L - (intOf i).toNat)
  case atStart => exact ⟨0, by omega, rfl, rfl, fun j hj => by omega⟩
  case round =>
    obtain ⟨k, hk, rfl, rfl, hp⟩ := hrel
    by_cases hlt : k < L
    · obtain ⟨ha, hcc⟩ := hc.out k hlt
      subst ha
      obtain ⟨t0, t1⟩ := ht.out k hlt
      have hy := hyes.out k hlt
      have hi := hin.out (R.getD k e0)
      have hpp : F (R.getD k e0) = false → ∀ j, j < k + 1 → F (R.getD j e0) = false := fun hf j hj => by
        rcases Nat.lt_succ_iff_lt_or_eq.1 hj with h | rfl
        · exact hp j h
        · exact hf
      obtain ⟨x, hx⟩ : ∃ z_, (R.getD k e0) = z_ := ⟨_, rfl⟩
      rw [hx] at hcc t0 t1 hy hi hpp
      obtain ⟨xa, xk⟩ := x
      simp only at t0 t1 hi
      have c0 := hcc 0 (by decide)
      have c1 := hcc 1 (by decide)
      simp only [List.getElem?_cons_succ, List.getElem?_cons_zero, Nat.add_zero] at c0 c1
      have wx : IntKind.i64.wrap (xa + h) = xa + h := by rw [IntKind.wrap_i64]; omega
      have wt : IntKind.i64.wrap ((k : Int) + 1) = ((k + 1 : Nat) : Int) := by rw [IntKind.wrap_i64]; omega
      clear hcc hp hx
      obtain ⟨f, hf⟩ : ∃ z_, (F ⟨xa, xk⟩) = z_ := ⟨_, rfl⟩
      rw [hf] at hy hi hpp
      replace hy := Lib.hid hy
      replace hpp := Lib.hid hpp
      obtain ⟨p1, hp1⟩ : ∃ z, decide (xk = key) = z := ⟨_, rfl⟩
      obtain ⟨p2, hp2⟩ : ∃ z, decide (xa ≤ now) = z := ⟨_, rfl⟩
      obtain ⟨p3, hp3⟩ : ∃ z, decide (now < xa + h) = z := ⟨_, rfl⟩
      rw [hp1, hp2, hp3] at hi
      have ke := keyEq xk key
      by_cases hk1 : xk = key
      · have kt : (xk.toList = key.toList) = True := by rw [ke]; simp [hk1]
        have kb : (xk.toList == key.toList) = true := by rw [hk1]; simp
        have hpt : p1 = true := by rw [← hp1]; exact decide_eq_true hk1
        rw [hpt, Bool.true_and] at hi
        clear hp1 hk1 ke hpt
        have e2 : decide (now ≥ xa) = p2 := hp2
        cases p2 with
        | false =>
          have hpf := hpp.out (by rw [hi]; rfl)
          clear hi hy hpp hp3
          go_wp2_with fail
          go_roundw
          case measure => simp [intOf] <;> omega
          case rel => exact ⟨k + 1, by omega, by go_num, trivial, hpf⟩
        | true =>
          cases p3 with
          | false =>
            have hpf := hpp.out (by rw [hi]; rfl)
            clear hi hy hpp
            go_wp2_with fail
            go_roundw
            case measure => simp [intOf] <;> omega
            case rel => exact ⟨k + 1, by omega, by go_num, trivial, hpf⟩
          | true =>
            have hyy := hy.out (by rw [hi]; rfl)
            subst hyy
            clear hi hy hpp
            go_wp2_with fail
            go_ret
            exact ⟨rfl, rfl⟩
      · have kt : (xk.toList = key.toList) = False := by rw [ke]; simp [hk1]
        have kb : (xk.toList == key.toList) = false := by rw [beq_eq_false_iff_ne]; intro h; rw [ke] at h; exact hk1 h
        have hpt : p1 = false := by rw [← hp1]; exact decide_eq_false hk1
        have hpf := hpp.out (by rw [hi, hpt]; rfl)
        clear hp1 hk1 ke hpt hi hy hpp hp2 hp3
        go_wp2_with fail
        go_roundw
        case measure => simp [intOf] <;> omega
        case rel => exact ⟨k + 1, by omega, by go_num, trivial, hpf⟩
    · obtain rfl : k = L := by omega
      have hB := hno.out hp
      subst hB
      go_wp2_with fail
      go_ret
      exact ⟨rfl, rfl⟩
end Go.Proofs.Ytfpapfnpppggeaa.dedup
