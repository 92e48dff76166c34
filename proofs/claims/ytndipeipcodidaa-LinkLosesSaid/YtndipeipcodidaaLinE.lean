/-
  Package link: End; the document's example.
-/
import Derived.Test.YtndipeipcodidaaLinD
namespace Go.Proofs.Ytndipeipcodidaa.link
open Go.ChangeShapes Go.WideShapes Go.ChangeAt Go.RowKit
set_option linter.unusedVariables false
set_option linter.unusedSimpArgs false

def endTo (A : List Flt) : Nat → Int
  | 0 => 0
  | k + 1 => max (endTo A k) (A.getD k fl0).t

set_option maxHeartbeats 4000000 in
theorem end_any (w : World) (p g : Nat) (hop : Int) (a : Option Addr) (cap : Nat) (A : List Flt) (cnt : List Int) (h : LK w p hop (.slice a A.length cap) cnt) (hA : FRow w g a A) (hN : A.length ≤ 40) :
    Calls Try.prog 19 #[ptr p] w fun e w' => e = .returned (I (endTo A A.length)) ∧ Bl w w' := by
  obtain ⟨c0, c1⟩ := h.c
  obtain ⟨N, hNN⟩ : ∃ z, A.length = z := ⟨_, rfl⟩
  rw [hNN] at c1 hN ⊢
  obtain ⟨T, hT⟩ : ∃ T : Nat → Int, endTo A = T := ⟨_, rfl⟩
  have hT0 : T 0 = 0 := by rw [← hT]; rfl
  have hTs : ∀ k, T (k + 1) = max (T k) (A.getD k fl0).t := fun k => by rw [← hT]; rfl
  rw [hT]
  replace hNN := Lib.hid hNN; replace hT0 := Lib.hid hT0; replace hTs := Lib.hid hTs; replace hA := Lib.hid hA
  clear h hT
  go_enter Try.func19, Try.ntmps19
  go_wp2_with fail
  go_loopw [3, 11] (fun en i wr => ∃ k : Nat, k ≤ N ∧ i = I k ∧ en = I (T k) ∧ Bl w wr) (fun _ i _ => N - (intOf i).toNat)
  case atStart => exact ⟨0, by omega, rfl, by rw [hT0.out], Bl.rfl' _⟩
  case round =>
    obtain ⟨k, hkN, rfl, rfl, hbr⟩ := hrel
    clear c0 c1
    by_cases hlt : k < N
    · obtain ⟨rfl, q0, q1, q2, q3, q4, q5⟩ := (hA.out.bl hbr).c k (by rw [hNN.out]; exact hlt)
      have hstep := hTs.out k
      have hba := hbr.tr ((Bl.rfl' wr).al (.cells #[I (A.getD k fl0).k, I (A.getD k fl0).f, I (A.getD k fl0).t, I (A.getD k fl0).a, I (A.getD k fl0).b, I (A.getD k fl0).n] 55))
      obtain ⟨x, hx⟩ : ∃ z, A.getD k fl0 = z := ⟨_, rfl⟩
      rw [hx] at q0 q1 q2 q3 q4 q5 hstep hba
      obtain ⟨xk, xf, xt, xa, xb, xn⟩ := x
      simp only at q0 q1 q2 q3 q4 q5 hstep hba
      replace hstep := Lib.hid hstep; replace hba := Lib.hid hba
      clear hbr hx
      go_wp2_with fail
      go_roundw
      case rel => exact ⟨k + 1, by omega, by go_num, by
        rw [hstep.out, show max (T k) xt = if T k < xt then xt else T k by split <;> omega], hba.out⟩
      case measure => simp [intOf]; omega
    · obtain rfl : k = N := by omega
      go_wp2_with fail
      go_ret
      exact ⟨rfl, hbr⟩
end Go.Proofs.Ytndipeipcodidaa.link
