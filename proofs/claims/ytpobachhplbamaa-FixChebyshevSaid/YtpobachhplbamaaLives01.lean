/-
  The document's examples of layer 1 hold.
-/
import Derived.Test.YtpobachhplbamaaPairs
namespace Go.Proofs.Ytpobachhplbamaa
open Go.ChangeShapes Go.WideShapes Go.ChangeAt Go.RowKit
set_option linter.unusedVariables false
set_option linter.unusedSimpArgs false

theorem lives_far : farB 1 10 [(9, 10), (9, 10), (9, 10), (1, 10)] 15 = true := by decide
theorem lives_part : part 1099511627776 1099511627776 2199023255552 = 549755813888 := by decide
theorem lives_down : (-7 : Int) / 2 = -4 := by decide

theorem lives01 (w : World) : Calls Try.prog 20 #[] w fun e w' => e = .returned (.bool true) ∧ Bl w w' := by
  go_enter Try.func20, Try.ntmps20
  go_wp2_with fail
  refine (down_any _ _ _ (by omega) (by omega) (by omega) (by omega)).mono ?_
  rintro e w1 ⟨rfl, rfl⟩
  rw [lives_down]
  go_wp2_with fail
  refine (part_any _ _ _ _ (by omega) (by omega) (by omega) (by omega) (by omega) (by omega)).mono ?_
  rintro e w1 ⟨rfl, hb1⟩
  rw [lives_part]
  go_wp2_with fail
  refine (far_any 1 10 15 [(9, 10), (9, 10), (9, 10), (1, 10)] _ _ (by unfold fair; omega) (by intro p hp; simp at hp; rcases hp with rfl | rfl <;> (unfold fair; omega)) (by simp) (by omega) (by omega) ?_).mono ?_
  · have h0 := Rd.of_own (g := pcell [(9, 10), (9, 10), (9, 10), (1, 10)]) (World.ownsRow_lit (base := w.heap.size) (e := 38) (size := 2) w #[I 9, I 10, I 9, I 10, I 9, I 10, I 1, I 10] 4 (Nat.le_refl _) (by decide) rfl) (by
      intro i hi
      match i, hi with
      | 0, _ | 1, _ | 2, _ | 3, _ | 4, _ | 5, _ | 6, _ | 7, _ => rfl)
    exact h0.below hb1
  rintro e w2 ⟨rfl, hb2⟩
  rw [lives_far]
  go_wp2_with fail
  go_ret
  exact ⟨rfl, (((Bl.rfl' w).al _).tr hb1).tr hb2⟩
end Go.Proofs.Ytpobachhplbamaa
