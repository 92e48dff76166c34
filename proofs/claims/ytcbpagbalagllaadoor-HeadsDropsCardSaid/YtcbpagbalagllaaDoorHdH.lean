/-
  Package heads: the example.
-/
import Derived.Test.YtcbpagbalagllaaDoorHdG
namespace Go.Proofs.YtcbpagbalagllaaDoor.heads
open Go.ChangeShapes Go.WideShapes Go.ChangeAt Go.RowKit
set_option linter.unusedVariables false
set_option linter.unusedSimpArgs false

theorem heads_lit (w : World) (A : List Hd) (hm : A.length ≤ 1000) : HeadsAt (w.alloc (.cells (flatB hB A).toArray 25)) (.slice (some ⟨w.heap.size, 0, none⟩) A.length A.length) A :=
  ⟨_, w.heap.size, 0, A.length, rfl, Nat.le_refl _, ⟨by omega, by simp⟩, fun _ => ⟨rfl, _, _, heap_alloc_new w _, fun j hj => by simp⟩⟩
abbrev bA : ByteArray := ⟨#[97]⟩
abbrev bB : ByteArray := ⟨#[98]⟩
abbrev bC : ByteArray := ⟨#[99]⟩
abbrev b1 : ByteArray := ⟨#[49]⟩
abbrev b2 : ByteArray := ⟨#[50]⟩
abbrev b3 : ByteArray := ⟨#[51]⟩
abbrev b4 : ByteArray := ⟨#[52]⟩
theorem ex_set : setP [⟨bA, b1⟩, ⟨bB, b2⟩] [⟨bB, b3⟩, ⟨bC, b4⟩] = [⟨bA, b1⟩, ⟨bB, b3⟩, ⟨bC, b4⟩] := by decide +kernel
theorem ex_print : printF [⟨bA, b1⟩, ⟨bB, b3⟩, ⟨bC, b4⟩] = ⟨#[97, 58, 49, 58, 49, 32, 98, 58, 49, 58, 51, 32, 99, 58, 49, 58, 52]⟩ := by decide +kernel
theorem ex_check : checkF [⟨bA, b1⟩, ⟨bB, b3⟩, ⟨bC, b4⟩] = 0 := by decide +kernel

set_option maxHeartbeats 2000000 in
theorem lives_any (w : World) : Calls Tryd.prog 17 #[] w fun e w' => e = .returned (.bool true) ∧ Bl w w' := by
  obtain ⟨w1, hw1⟩ : ∃ X, w.alloc (.cells #[S bA, S b1, S bB, S b2] 25) = X := ⟨_, rfl⟩
  have hw1' : w.alloc (.cells #[.string ⟨#[97]⟩, .string ⟨#[49]⟩, .string ⟨#[98]⟩, .string ⟨#[50]⟩] 25) = w1 := hw1
  have H1 : HeadsAt w1 (.slice (some ⟨w.heap.size, 0, none⟩) 2 2) [⟨bA, b1⟩, ⟨bB, b2⟩] := by rw [← hw1]; exact heads_lit w [⟨bA, b1⟩, ⟨bB, b2⟩] (by decide)
  obtain ⟨w2, hw2⟩ : ∃ X, w1.alloc (.cells #[S bB, S b3, S bC, S b4] 25) = X := ⟨_, rfl⟩
  have hw2' : w1.alloc (.cells #[.string ⟨#[98]⟩, .string ⟨#[51]⟩, .string ⟨#[99]⟩, .string ⟨#[52]⟩] 25) = w2 := hw2
  have H2 : HeadsAt w2 (.slice (some ⟨w1.heap.size, 0, none⟩) 2 2) [⟨bB, b3⟩, ⟨bC, b4⟩] := by rw [← hw2]; exact heads_lit w1 [⟨bB, b3⟩, ⟨bC, b4⟩] (by decide)
  have hb1 : Bl w w1 := by rw [← hw1]; exact (Bl.rfl' w).al _
  have hb2 : Bl w1 w2 := by rw [← hw2]; exact (Bl.rfl' w1).al _
  have ST := set_any _ [⟨bA, b1⟩, ⟨bB, b2⟩] _ [⟨bB, b3⟩, ⟨bC, b4⟩] w2 (H1.bl hb2) H2 (by decide) (by decide)
  rw [ex_set] at ST
  have hbb := hb1.tr hb2
  clear hw1 hw2 H1 H2 hb1 hb2
  replace ST := Lib.hid ST
  replace hbb := Lib.hid hbb
  go_enter Tryd.func17, Tryd.ntmps17
  go_wp2_with fail
  clear hw1' hw2'
  with_reducible refine (ST.out).mono ?_
  rintro e w3 ⟨x, rfl, hx, hn⟩
  have hH := heads_own hx
  have PR := print_any x _ w3 hH (by decide) (by decide)
  rw [ex_print] at PR
  have CK := Lib.hid (fun w' (hb : Bl w3 w') => check_any x _ w' (hH.bl hb) (by decide) (by
    intro y hy
    simp at hy
    rcases hy with rfl | rfl | rfl <;> exact ⟨by decide, by decide⟩))
  rw [ex_check] at CK
  have hbz := hbb.out.tr hn
  clear hx hn hH hbb
  replace PR := Lib.hid PR
  replace hbz := Lib.hid hbz
  go_wp2_with fail
  with_reducible refine (PR.out).mono ?_
  rintro e w4 ⟨rfl, hn⟩
  have hby := hbz.out.tr hn
  have CK4 := CK.out w4 hn
  clear hn hbz
  replace hby := Lib.hid hby
  replace CK4 := Lib.hid CK4
  go_wp2_with fail
  with_reducible refine (CK4.out).mono ?_
  rintro e w5 ⟨rfl, hn⟩
  have hbx := hby.out.tr hn
  clear hn
  replace hbx := Lib.hid hbx
  go_wp2_with fail
  go_ret
  exact ⟨rfl, hbx.out⟩
end Go.Proofs.YtcbpagbalagllaaDoor.heads
