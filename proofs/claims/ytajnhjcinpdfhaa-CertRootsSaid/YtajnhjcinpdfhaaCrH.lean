/-
  Package cert: the example.
-/
import Derived.Test.YtajnhjcinpdfhaaCrG
namespace Go.Proofs.Ytajnhjcinpdfhaa.cert
open Go.ChangeShapes Go.WideShapes Go.ChangeAt Go.RowKit
set_option linter.unusedVariables false
set_option linter.unusedSimpArgs false

theorem OwnB.ints {w : World} {b : Nat} {v : Value} {z : List Int} (h : OwnB iB 1 3 w b v z) : IntsAt w v z := by
  unfold OwnB at h
  rw [flatB_ints] at h
  have := Rd.of_own (g := icell z) h (fun i hi => by
    rw [List.getElem?_map, List.getElem?_eq_getElem (by omega)]
    unfold icell
    rw [List.getD_eq_getElem?_getD, List.getElem?_eq_getElem (by omega)]; rfl)
  rwa [Nat.mul_one] at this

set_option maxHeartbeats 8000000 in
set_option maxRecDepth 20000 in
theorem lives_any (w : World) : Calls Try.prog 10 #[] w fun e w' => e = .returned (.bool true) ∧ Bl w w' := by
  have NW := Lib.hid new_any
  go_enter Try.func10, Try.ntmps10
  go_wp2_with fail
  first | with_reducible refine (NW.out w).mono ?_ | refine (NW.out w).mono ?_
  rintro e w1 ⟨p, rfl, hC, hb1⟩
  replace hb1 := Lib.hid hb1
  have IS := issue_any hC (by simp) (by simp) 3 10 100 (by omega) (by omega) (by omega) (by omega)
  unfold IssueD at IS
  simp only [List.length_nil, List.nil_append] at IS
  rw [show (⟨((0 : Nat) : Int) + 1, ((0 : Nat) : Int) + 1, 3, 10, 10 + 100⟩ : Crt) = ⟨1, 1, 3, 10, 110⟩ from rfl] at IS
  replace IS := Lib.hid IS
  clear hC
  go_wp2_with fail
  first | with_reducible refine (IS.out).mono ?_ | refine (IS.out).mono ?_
  rintro e w2 ⟨rfl, hC, hT⟩
  have hb2 := hb1.out.tch hT (fun q hq => hq)
  have hs2 := hT.size
  have hC2 := hC.bl ((Bl.rfl' w2).al (.cells #[I 1, I 1, I 3, I 10, I 110] 24))
  have hY := heap_alloc_new w2 (.cells #[I 1, I 1, I 3, I 10, I 110] 24)
  have hb3 := hb2.al (.cells #[I 1, I 1, I 3, I 10, I 110] 24)
  have hks : ∀ k, grw (fun k => w.heap.size ≤ k) w1 w2 k → w.heap.size ≤ k ∧ k < w2.heap.size := fun q hq => ⟨by
    rcases hq.1 with h | h
    · exact h
    · have := hb1.out.size; omega, hq.2⟩
  obtain ⟨w3, hw3⟩ : ∃ z_, (w2.alloc (.cells #[I 1, I 1, I 3, I 10, I 110] 24)) = z_ := ⟨_, rfl⟩
  rw [hw3] at hC2 hY hb3
  obtain ⟨y, hy⟩ : ∃ z_, (w2.heap.size) = z_ := ⟨_, rfl⟩
  rw [hy] at hY hks
  have RO := rotate_any hC2 (by simp) 20 5 (by omega) (by omega) (by omega) (by omega)
  unfold RotateD at RO
  simp only [List.length_nil, List.map_nil, List.nil_append] at RO
  rw [show ((0 : Nat) : Int) + 2 = 2 from rfl, show (20 + 5 : Int) = 25 from rfl] at RO
  have hw3' : w2.alloc (.cells #[Value.int .i64 1, Value.int .i64 1, Value.int .i64 3, Value.int .i64 10, Value.int .i64 110] 24) = w3 := hw3
  replace RO := Lib.hid RO
  clear IS hC hT hC2 hw3
  go_wp2_with fail
  first | with_reducible refine (RO.out).mono ?_ | refine (RO.out).mono ?_
  rintro e w4 ⟨rfl, hC, hT⟩
  have hb4 := Lib.hid (hb3.tch hT (fun q hq => (hks q hq).1))
  have hY4 := hT.var hY (fun hh => by have := (hks _ hh).2; omega)
  clear hw3' hb3 hY hks
  obtain ⟨y0, y1, y2, y3, y4⟩ := five hY4
  have e1 : chkE [25] [⟨1, 1, 3, 10, 110⟩] [] ⟨1, 1, 3, 10, 110⟩ 3 24 = 0 := by decide
  have e2 : chkE [25] [⟨1, 1, 3, 10, 110⟩] [] ⟨1, 1, 3, 10, 110⟩ 3 25 = 20 := by decide
  have e3 : chkE [25] [⟨1, 1, 3, 10, 110⟩] [] ⟨1, 1, 3, 10, 110⟩ 2 24 = 20 := by decide
  have C1 := fun w' (hb : Bl w4 w') => check_any (hC.bl hb) (by simp) (by simp) ⟨1, 1, 3, 10, 110⟩ 3 24 ⟨by simp, by simp⟩
  have C2 := fun w' (hb : Bl w4 w') => check_any (hC.bl hb) (by simp) (by simp) ⟨1, 1, 3, 10, 110⟩ 3 25 ⟨by simp, by simp⟩
  have C3 := fun w' (hb : Bl w4 w') => check_any (hC.bl hb) (by simp) (by simp) ⟨1, 1, 3, 10, 110⟩ 2 24 ⟨by simp, by simp⟩
  have R1 := fun w' (hb : Bl w4 w') => roots_any (hC.bl hb) (by simp) 24
  have hr : rootsTo [25] 24 ([25].length + 1) = [1, 2] := by decide
  simp only [e1, e2, e3, hr] at C1 C2 C3 R1
  have SM := same_any [1, 2] [1, 2]
  have hY4' := Lib.hid hY4
  replace C1 := Lib.hid C1
  replace C2 := Lib.hid C2
  replace C3 := Lib.hid C3
  replace R1 := Lib.hid R1
  replace SM := Lib.hid SM
  clear RO hC hT e1 e2 e3 hr hY4
  go_wp2_with fail
  first | with_reducible refine (C1.out _ (Bl.rfl' _)).mono ?_ | refine (C1.out _ (Bl.rfl' _)).mono ?_
  rintro e w5 ⟨rfl, hb5⟩
  obtain ⟨y0, y1, y2, y3, y4⟩ := five (blk_bl hY4'.out hb5)
  replace hb5 := Lib.hid hb5
  go_wp2_with fail
  first | with_reducible refine (C2.out _ hb5.out).mono ?_ | refine (C2.out _ hb5.out).mono ?_
  rintro e w6 ⟨rfl, hb6⟩
  have hb6 := hb5.out.tr hb6
  obtain ⟨y0, y1, y2, y3, y4⟩ := five (blk_bl hY4'.out hb6)
  replace hb6 := Lib.hid hb6
  clear hb5
  go_wp2_with fail
  first | with_reducible refine (C3.out _ hb6.out).mono ?_ | refine (C3.out _ hb6.out).mono ?_
  rintro e w7 ⟨rfl, hb7⟩
  have hb7 := hb6.out.tr hb7
  replace hb7 := Lib.hid hb7
  clear hb6
  go_wp2_with fail
  first | with_reducible refine (R1.out _ hb7.out).mono ?_ | refine (R1.out _ hb7.out).mono ?_
  rintro e w8 ⟨vr, rfl, ho, hb8⟩
  have hb8' := hb7.out.tr hb8
  have hi1 := (OwnB.ints ho).below ((Bl.rfl' w8).al (.cells #[I 1, I 2] 3))
  have hi2 := ints_lit w8 3 [1, 2] (by decide)
  have hb9 := (hb4.out.tr hb8').al (.cells #[I 1, I 2] 3)
  have S1 := SM.out vr _ _ hi1 hi2 (by decide) (by decide)
  replace S1 := Lib.hid S1
  replace hb9 := Lib.hid hb9
  clear hb7 hb8 ho hi1 hi2
  go_wp2_with fail
  first | with_reducible refine (S1.out).mono ?_ | refine (S1.out).mono ?_
  rintro e w9 ⟨rfl, hb10⟩
  have hb11 := hb9.out.tr hb10
  have d1 : decide (([1, 2] : List Int) = [1, 2]) = true := by decide
  go_wp2_with fail
  go_ret
  exact ⟨rfl, hb11⟩
end Go.Proofs.Ytajnhjcinpdfhaa.cert
