/-
  Package adapt: the document's example.
-/
import Derived.Test.YtdfbipfgcfajbaaAdaC
namespace Go.Proofs.Ytdfbipfgcfajbaa.adapt
open Go.ChangeShapes Go.WideShapes Go.ChangeAt Go.RowKit
set_option linter.unusedVariables false
set_option linter.unusedSimpArgs false

theorem ex_rise (k : Nat) (hk : k < 6) : done ⟨2 + k, 2, 9, if k = 0 then 0 else 5, false, 0⟩ k (2 + k) 5 true = ⟨2 + ((k + 1 : Nat) : Int), 2, 9, if k + 1 = 0 then 0 else 5, false, 0⟩ := by
  have h1 : (2 : Int) + k < 9 := by omega
  by_cases h : k = 0
  · subst h; rfl
  · simp only [done, based, rise, if_neg h]
    simp [h1]
    omega
theorem ex_fall : done ⟨2 + ((6 : Nat) : Int), 2, 9, if (6 : Nat) = 0 then 0 else 5, false, 0⟩ 6 8 30 true = ⟨6, 2, 9, 5, true, 6⟩ := by rfl
theorem ex_not : done ⟨6, 2, 9, 5, true, 6⟩ 6 6 5 false = ⟨6, 2, 9, 5, true, 6⟩ := by rfl

theorem lives21 (w : World) : Calls Try.prog 13 #[] w fun e w' => e = .returned (.bool true) ∧ Bl w w' := by
  go_enter Try.func13, Try.ntmps13
  go_wp2_with fail
  refine (new_any 2 9 _).mono ?_
  rintro e w1 ⟨p, rfl, hp, h, hb⟩
  go_wp2_with fail
  go_loopw [2] (fun i wr => ∃ k : Nat, k ≤ 6 ∧ i = I k ∧ AB wr p ⟨2 + k, 2, 9, if k = 0 then 0 else 5, false, 0⟩ ∧ Bl w wr) (fun i _ => 6 - (intOf i).toNat)
  case atStart => exact ⟨0, by omega, rfl, h, hb⟩
  case round =>
    obtain ⟨k, hk, rfl, hr, hbr⟩ := hrel
    clear h hb
    by_cases hlt : k < 6
    · have N := Lib.hid (now_any wr p _ hr)
      have hok : okL ⟨2 + k, 2, 9, if k = 0 then 0 else 5, false, 0⟩ := by unfold okL; simp only; split <;> omega
      have D := done_any wr p _ k (2 + k) 5 true hr hok (by omega) (by omega) (by omega) (by omega)
      rw [ex_rise k hlt] at D
      replace D := Lib.hid D
      clear hr hok
      go_wp2_with fail
      refine N.out.mono ?_
      rintro e w2 ⟨rfl, rfl⟩
      go_wp2_with fail
      refine D.out.mono ?_
      rintro e w3 ⟨rfl, h3, hg⟩
      have hb3 := hbr.gp hg hp
      replace h3 := Lib.hid h3
      clear hg hbr N D
      go_wp2_with fail
      go_roundw
      case rel => exact ⟨k + 1, by omega, by go_num, h3.out, hb3⟩
      case measure => simp [intOf]; omega
    · obtain rfl : k = 6 := by omega
      have hok : okL ⟨2 + ((6 : Nat) : Int), 2, 9, if (6 : Nat) = 0 then 0 else 5, false, 0⟩ := by unfold okL; simp
      have N1 := now_any wr p _ hr
      have D1 := done_any wr p _ 6 8 30 true hr hok (by omega) (by omega) (by omega) (by omega)
      rw [ex_fall] at D1
      have N1' : Calls Try.prog 10 #[ptr p] wr fun e w' => e = .returned (.int .i64 8) ∧ wr = w' := N1
      replace D1 := Lib.hid D1; replace N1' := Lib.hid N1'
      clear hr hok N1
      go_wp2_with fail
      refine N1'.out.mono ?_
      rintro e w2 ⟨rfl, rfl⟩
      go_wp2_with fail
      refine D1.out.mono ?_
      rintro e w3 ⟨rfl, h3, hg⟩
      have hb3 := hbr.gp hg hp
      have hok : okL ⟨6, 2, 9, 5, true, 6⟩ := by unfold okL; simp
      have N2 := Lib.hid (now_any w3 p _ h3)
      have D2 := done_any w3 p _ 6 6 5 false h3 hok (by omega) (by omega) (by omega) (by omega)
      rw [ex_not] at D2
      replace D2 := Lib.hid D2
      clear hg hbr D1 h3
      go_wp2_with fail
      refine N2.out.mono ?_
      rintro e w4 ⟨rfl, rfl⟩
      go_wp2_with fail
      refine D2.out.mono ?_
      rintro e w5 ⟨rfl, h5, hg⟩
      have hb5 := hb3.gp hg hp
      have N3 := Lib.hid (now_any w5 p _ h5)
      have B3 := Lib.hid (base_any w5 p _ h5)
      clear hg hb3 D2 h5 N2
      go_wp2_with fail
      refine N3.out.mono ?_
      rintro e w6 ⟨rfl, rfl⟩
      go_wp2_with fail
      refine B3.out.mono ?_
      rintro e w7 ⟨rfl, rfl⟩
      go_wp2_with fail
      go_ret
      exact ⟨rfl, hb5⟩
end Go.Proofs.Ytdfbipfgcfajbaa.adapt
