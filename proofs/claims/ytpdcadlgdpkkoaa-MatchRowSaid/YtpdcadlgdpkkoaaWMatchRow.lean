/-
  Which of two matches comes ahead is the document's, for any two rows of numbers.
-/
import Derived.Test.YtpdcadlgdpkkoaaMaN
import Derived.Test.YtpdcadlgdpkkoaaMaM
namespace Go.Proofs.Ytpdcadlgdpkkoaa.matchRow
open Go.ChangeShapes Go.WideShapes Go.ChangeAt Go.RowKit
open Go.Proofs.Ytpdcadlgdpkkoaa.mat Go.Proofs.Ytpdcadlgdpkkoaa.heads
set_option linter.unusedVariables false
set_option linter.unusedSimpArgs false

set_option maxRecDepth 20000 in
set_option maxHeartbeats 8000000 in
theorem walk {w : World} (v0 : Value) (z0 : List Int) (hv0 : IntsAt w v0 z0) (hz0 : i64ok z0) (hm0 : z0.length ≤ maxLen) (v1 : Value) (z1 : List Int) (hv1 : IntsAt w v1 z1) (hz1 : i64ok z1) (hm1 : z1.length ≤ maxLen) :
    Calls Try.prog 4 #[v0, v1] w fun e w' => e = .returned (.bool true) ∧ Bl w w' := by
  have M1 := match_mk z0 v0 w hv0 hz0 hm0
  have M2 := fun w' (hb : Bl w w') => match_mk z1 v1 w' (Rd.below hv1 hb) hz1 hm1
  have LV := Lib.hid lives_any
  obtain ⟨f1, s1⟩ := mpF_is z0
  obtain ⟨f2, s2⟩ := mpF_is z1
  have l1 := mhA_len z0
  have l2 := mhA_len z1
  obtain ⟨p1, hp1⟩ : ∃ z_, (mpF z0) = z_ := ⟨_, rfl⟩
  obtain ⟨p2, hp2⟩ : ∃ z_, (mpF z1) = z_ := ⟨_, rfl⟩
  obtain ⟨x1, hx1⟩ : ∃ z_, (mxF z0) = z_ := ⟨_, rfl⟩
  obtain ⟨x2, hx2⟩ : ∃ z_, (mxF z1) = z_ := ⟨_, rfl⟩
  obtain ⟨A1, hA1⟩ : ∃ z_, (mhA z0) = z_ := ⟨_, rfl⟩
  obtain ⟨A2, hA2⟩ : ∃ z_, (mhA z1) = z_ := ⟨_, rfl⟩
  simp only [hp1, hx1, hA1] at M1 s1 l1 f1
  simp only [hp2, hx2, hA2] at M2 s2 l2 f2
  obtain ⟨n1, hn1⟩ : ∃ z_, (A1.length) = z_ := ⟨_, rfl⟩
  obtain ⟨n2, hn2⟩ : ∃ z_, (A2.length) = z_ := ⟨_, rfl⟩
  rw [hn1] at l1
  rw [hn2] at l2
  clear hp1 hp2 hx1 hx2 hA1 hA2 hv0 hv1 hz0 hz1 hm0 hm1
  have CM := Lib.hid (fun p x a n cap p' x' a' n' cap' w h1 h2 h3 h4 => cmp_any p x a n cap p' x' a' n' cap' w h1 h2 h3 h4)
  have RM := Lib.hid (fun p x a n cap p' x' a' n' cap' w h1 h2 h3 h4 h5 h6 => rcmp_any p x a n cap p' x' a' n' cap' w h1 h2 h3 h4 h5 h6)
  replace M1 := Lib.hid M1
  replace M2 := Lib.hid M2
  replace hn1 := Lib.hid hn1
  replace hn2 := Lib.hid hn2
  replace s1 := Lib.hid s1
  replace s2 := Lib.hid s2
  replace l1 := Lib.hid l1
  replace l2 := Lib.hid l2
  replace f1 := Lib.hid f1
  replace f2 := Lib.hid f2
  go_enter Try.func4, Try.ntmps4
  go_wp2_with fail
  replace hn1 := hn1.out
  replace hn2 := hn2.out
  with_reducible refine (M1.out).mono ?_
  rintro e w1 ⟨u, rfl, o1, q1⟩
  obtain ⟨a1, g1, k1, rfl, -⟩ := OwnB.row o1 (by decide)
  rw [hn1]
  have b1 := heap_alloc_new w1 (oM p1 x1 (.slice a1 n1 k1))
  have t1 := ((Bl.rfl' w).tr q1).al (oM p1 x1 (.slice a1 n1 k1))
  obtain ⟨y1, h1⟩ : ∃ X, w1.alloc (.cells #[.string p1, .bool x1, .slice a1 n1 k1] 29) = X := ⟨_, rfl⟩
  have hh : w1.alloc (oM p1 x1 (.slice a1 n1 k1)) = y1 := h1
  obtain ⟨r1, e1⟩ : ∃ X, w1.heap.size = X := ⟨_, rfl⟩
  have i1 := (Bl.rfl' w1).al (oM p1 x1 (.slice a1 n1 k1))
  rw [hh] at b1 t1 i1
  rw [e1] at b1
  clear hh o1
  replace b1 := Lib.hid b1
  replace t1 := Lib.hid t1
  replace h1 := Lib.hid h1
  replace e1 := Lib.hid e1
  replace q1 := Lib.hid q1
  replace i1 := Lib.hid i1
  go_upto_region 2 with fail
  rw [h1.out, e1.out]
  clear h1 e1
  replace M2 := Lib.hid (M2.out _ t1.out)
  go_wp2_with fail
  with_reducible refine (M2.out).mono ?_
  rintro e w2 ⟨u, rfl, o2, q2⟩
  obtain ⟨a2, g2, k2, rfl, -⟩ := OwnB.row o2 (by decide)
  rw [hn2]
  have b2 := heap_alloc_new w2 (oM p2 x2 (.slice a2 n2 k2))
  have t2 := (t1.out.tr q2).al (oM p2 x2 (.slice a2 n2 k2))
  obtain ⟨y2, h2⟩ : ∃ X, w2.alloc (.cells #[.string p2, .bool x2, .slice a2 n2 k2] 29) = X := ⟨_, rfl⟩
  have hh : w2.alloc (oM p2 x2 (.slice a2 n2 k2)) = y2 := h2
  obtain ⟨r2, e2⟩ : ∃ X, w2.heap.size = X := ⟨_, rfl⟩
  have i2 := (Bl.rfl' w2).al (oM p2 x2 (.slice a2 n2 k2))
  rw [hh] at b2 t2 i2
  rw [e2] at b2
  clear hh o2
  replace b2 := Lib.hid b2
  replace t2 := Lib.hid t2
  replace h2 := Lib.hid h2
  replace e2 := Lib.hid e2
  replace q2 := Lib.hid q2
  replace i2 := Lib.hid i2
  go_upto_region 3 with fail
  rw [h2.out, e2.out]
  clear h2 e2
  have B1 := blk_bl b1.out (q2.out.tr i2.out)
  have B2 := b2.out
  have c0 := cell_at B1 0
  have c1 := cell_at B1 1
  have c2 := cell_at B1 2
  have d1 := cell_at (blk_bl B1 ((Bl.rfl' y2).al (oM p1 x1 (.slice a1 n1 k1)))) 1
  simp only [List.getElem?_toArray, List.getElem?_cons_succ, List.getElem?_cons_zero] at c0 c1 c2 d1
  replace B1 := Lib.hid B1
  replace B2 := Lib.hid B2
  go_upto_region 5 with fail
  obtain ⟨r3, e3⟩ : ∃ X, y2.heap.size = X := ⟨_, rfl⟩
  have b3 := heap_alloc_new y2 (oM p1 (!x1) (.slice a1 n1 k1))
  have q3 := (Bl.rfl' y2).al (oM p1 (!x1) (.slice a1 n1 k1))
  obtain ⟨z0', h3⟩ : ∃ X, (y2.alloc (.cells #[.string p1, .bool (!x1), .slice a1 n1 k1] 29)) = X := ⟨_, rfl⟩
  have hh : y2.alloc (oM p1 (!x1) (.slice a1 n1 k1)) = z0' := h3
  rw [hh] at b3 q3
  rw [e3] at b3 ⊢
  rw [h3]
  clear hh h3 e3 d1 c0 c1 c2
  have g3 : Bl z0' z0'.drew := (Bl.rfl' z0').dr
  have B1' := blk_bl B1.out (q3.tr g3)
  have B2' := blk_bl B2.out (q3.tr g3)
  have B3' := blk_bl b3 g3
  have hb0 := t2.out.tr (q3.tr g3)
  clear B1 B2 b3 q3 g3 t1 t2 q1 q2 i1 i2 b1 b2 M1 M2
  obtain ⟨y3, hy3⟩ : ∃ X, z0'.drew = X := ⟨_, rfl⟩
  rw [hy3] at B1' B2' B3' hb0
  have KX := Lib.hid (fun w' (hb : Bl y3 w') => (⟨cell_at (blk_bl B1' hb) 0, cell_at (blk_bl B1' hb) 1, cell_at (blk_bl B1' hb) 2, cell_at (blk_bl B2' hb) 0, cell_at (blk_bl B2' hb) 1, cell_at (blk_bl B2' hb) 2, cell_at (blk_bl B3' hb) 0, cell_at (blk_bl B3' hb) 1, cell_at (blk_bl B3' hb) 2⟩ :
    w'.cell? ⟨r1, 0, none⟩ = some (S p1) ∧ w'.cell? ⟨r1, 1, none⟩ = some (.bool x1) ∧ w'.cell? ⟨r1, 2, none⟩ = some (.slice a1 n1 k1) ∧ w'.cell? ⟨r2, 0, none⟩ = some (S p2) ∧ w'.cell? ⟨r2, 1, none⟩ = some (.bool x2) ∧ w'.cell? ⟨r2, 2, none⟩ = some (.slice a2 n2 k2) ∧ w'.cell? ⟨r3, 0, none⟩ = some (S p1) ∧ w'.cell? ⟨r3, 1, none⟩ = some (.bool (!x1)) ∧ w'.cell? ⟨r3, 2, none⟩ = some (.slice a1 n1 k1)))
  obtain ⟨x3, hx3⟩ : ∃ b, (!x1) = b := ⟨_, rfl⟩
  rw [hx3] at KX
  have hq := Lib.hid (Bl.rfl' y3)
  have s1 := s1.out; have s2 := s2.out; have l1 := l1.out; have l2 := l2.out
  have AB := fun w => CM.out p1 x1 a1 n1 k1 p2 x2 a2 n2 k2 w (by omega) (by omega) (by omega) (by omega)
  have AC := fun w => CM.out p1 x1 a1 n1 k1 p1 x3 a1 n1 k1 w (by omega) (by omega) (by omega) (by omega)
  have BC := fun w => CM.out p2 x2 a2 n2 k2 p1 x3 a1 n1 k1 w (by omega) (by omega) (by omega) (by omega)
  have RAB := fun w => RM.out p1 x1 a1 n1 k1 p2 x2 a2 n2 k2 w (by omega) (by omega) (by omega) (by omega) f1.out f2.out
  have RAC := fun w => RM.out p1 x1 a1 n1 k1 p1 x3 a1 n1 k1 w (by omega) (by omega) (by omega) (by omega) f1.out f1.out
  have RBC := fun w => RM.out p2 x2 a2 n2 k2 p1 x3 a1 n1 k1 w (by omega) (by omega) (by omega) (by omega) f2.out f1.out
  obtain ⟨ab, hab⟩ : ∃ z_, (cmp3 (bI x1) (partsN p1) n1 (bI x2) (partsN p2) n2) = z_ := ⟨_, rfl⟩
  obtain ⟨ac, hac⟩ : ∃ z_, (cmp3 (bI x1) (partsN p1) n1 (bI x3) (partsN p1) n1) = z_ := ⟨_, rfl⟩
  obtain ⟨bc, hbc⟩ : ∃ z_, (cmp3 (bI x2) (partsN p2) n2 (bI x3) (partsN p1) n1) = z_ := ⟨_, rfl⟩
  simp only [hab, hac, hbc] at AB AC BC RAB RAC RBC
  clear hab hbc hac B1' B2' B3' CM RM hn1 hn2 s1 s2 l1 l2 f1 f2 hx3
  replace AB := Lib.hid AB
  replace AC := Lib.hid AC
  replace BC := Lib.hid BC
  replace RAB := Lib.hid RAB
  replace RAC := Lib.hid RAC
  replace RBC := Lib.hid RBC
  replace hb0 := Lib.hid hb0
  refine wp_region_held_drew (S := fun w' => w'.cell? ⟨r1, 0, none⟩ = some (S p1) ∧ w'.cell? ⟨r1, 1, none⟩ = some (.bool x1) ∧ w'.cell? ⟨r1, 2, none⟩ = some (.slice a1 n1 k1) ∧ w'.cell? ⟨r2, 0, none⟩ = some (S p2) ∧ w'.cell? ⟨r2, 1, none⟩ = some (.bool x2) ∧ w'.cell? ⟨r2, 2, none⟩ = some (.slice a2 n2 k2) ∧ w'.cell? ⟨r3, 0, none⟩ = some (S p1) ∧ w'.cell? ⟨r3, 1, none⟩ = some (.bool x3) ∧ w'.cell? ⟨r3, 2, none⟩ = some (.slice a1 n1 k1)) (by kernel_rfl) ?_ (fun hHeld => ?_)
  · exact KX.out _ (by rw [hy3]; exact Bl.rfl' _)
  rw [hy3] at hHeld ⊢
  clear hy3
  refine wpAnyH_take (i := 0) (v := ?v0_1) rfl (by kernel_rfl) (by kernel_rfl) (by kernel_rfl) (fun _ _ _ h => h) (Or.inl ⟨by rfl, ?y0_1⟩) hHeld ?r0_1
  case y0_1 => (intro w hSw; (try dsimp only at hSw); go_split_ands; go_simp; try with_reducible rfl)
  try simp only [List.getElem_toArray, List.getElem_cons_succ, List.getElem_cons_zero, Act.put, List.setIfInBounds_toArray, List.set_cons_zero, List.set_cons_succ]
  refine wpAnyH_take (i := 1) (v := ?v1_2) rfl (by kernel_rfl) (by kernel_rfl) (by kernel_rfl) (fun _ _ _ h => h) (Or.inl ⟨by rfl, ?y1_2⟩) hHeld ?r1_2
  case y1_2 => (intro w hSw; (try dsimp only at hSw); go_split_ands; go_simp; try with_reducible rfl)
  try simp only [List.getElem_toArray, List.getElem_cons_succ, List.getElem_cons_zero, Act.put, List.setIfInBounds_toArray, List.set_cons_zero, List.set_cons_succ]
  refine wpAnyH_take (i := 3) (v := ?v3_3) rfl (by kernel_rfl) (by kernel_rfl) (by kernel_rfl) (fun _ _ _ h => h) (Or.inl ⟨by rfl, ?y3_3⟩) hHeld ?r3_3
  case y3_3 => (intro w hSw; (try dsimp only at hSw); go_split_ands; go_simp; try with_reducible rfl)
  try simp only [List.getElem_toArray, List.getElem_cons_succ, List.getElem_cons_zero, Act.put, List.setIfInBounds_toArray, List.set_cons_zero, List.set_cons_succ]
  refine wpAnyH_take (i := 4) (v := ?v4_4) rfl (by kernel_rfl) (by kernel_rfl) (by kernel_rfl) (fun _ _ _ h => h) (Or.inl ⟨by rfl, ?y4_4⟩) hHeld ?r4_4
  case y4_4 => (intro w hSw; (try dsimp only at hSw); go_split_ands; go_simp; try with_reducible rfl)
  try simp only [List.getElem_toArray, List.getElem_cons_succ, List.getElem_cons_zero, Act.put, List.setIfInBounds_toArray, List.set_cons_zero, List.set_cons_succ]
  refine wpAnyH_ready (rs := [2]) (by kernel_rfl) (by simp) ?_
  refine AllReadyH.cons rfl (fun K hK => ?_) AllReadyH.nil
  have hHeld' := hHeld
  try dsimp only at hHeld'
  go_split_ands
  go_simp
  refine (AB.out _).mono ?_
  rintro e j1 ⟨rfl, hn⟩
  replace hq := Lib.hid (hq.out.tr hn)
  clear hn
  refine hK.out _ _ ?_ (fun hHeld => ?_)
  · exact (KX.out _ hq.out)
  clear hK K
  try simp only [List.getElem_toArray, List.getElem_cons_succ, List.getElem_cons_zero, Act.put, List.setIfInBounds_toArray, List.set_cons_zero, List.set_cons_succ]
  refine wpAnyH_ready (rs := [5]) (by kernel_rfl) (by simp) ?_
  refine AllReadyH.cons rfl (fun K hK => ?_) AllReadyH.nil
  have hHeld' := hHeld
  try dsimp only at hHeld'
  go_split_ands
  go_simp
  refine (RAB.out _).mono ?_
  rintro e j2 ⟨rfl, hn⟩
  replace hq := Lib.hid (hq.out.tr hn)
  clear hn
  refine hK.out _ _ ?_ (fun hHeld => ?_)
  · exact (KX.out _ hq.out)
  clear hK K
  try simp only [List.getElem_toArray, List.getElem_cons_succ, List.getElem_cons_zero, Act.put, List.setIfInBounds_toArray, List.set_cons_zero, List.set_cons_succ]
  refine wpAnyH_take (i := 6) (v := ?v6_5) rfl (by kernel_rfl) (by kernel_rfl) (by kernel_rfl) (fun _ _ _ h => h) (Or.inl ⟨by rfl, ?y6_5⟩) hHeld ?r6_5
  case y6_5 => (intro w hSw; (try dsimp only at hSw); go_split_ands; go_simp; try with_reducible rfl)
  try simp only [List.getElem_toArray, List.getElem_cons_succ, List.getElem_cons_zero, Act.put, List.setIfInBounds_toArray, List.set_cons_zero, List.set_cons_succ]
  refine wpAnyH_take (i := 7) (v := ?v7_6) rfl (by kernel_rfl) (by kernel_rfl) (by kernel_rfl) (fun _ _ _ h => h) (Or.inl ⟨by rfl, ?y7_6⟩) hHeld ?r7_6
  case y7_6 => (intro w hSw; (try dsimp only at hSw); go_split_ands; go_simp; try with_reducible rfl)
  try simp only [List.getElem_toArray, List.getElem_cons_succ, List.getElem_cons_zero, Act.put, List.setIfInBounds_toArray, List.set_cons_zero, List.set_cons_succ]
  refine wpAnyH_take (i := 8) (v := ?v8_7) rfl (by kernel_rfl) (by kernel_rfl) (by kernel_rfl) (fun _ _ _ h => h) (Or.inl ⟨by rfl, ?y8_7⟩) hHeld ?r8_7
  case y8_7 => (intro w hSw; (try dsimp only at hSw); go_split_ands; go_simp; try with_reducible rfl)
  try simp only [List.getElem_toArray, List.getElem_cons_succ, List.getElem_cons_zero, Act.put, List.setIfInBounds_toArray, List.set_cons_zero, List.set_cons_succ]
  refine wpAnyH_take (i := 9) (v := ?v9_8) rfl (by kernel_rfl) (by kernel_rfl) (by kernel_rfl) (fun _ _ _ h => h) (Or.inl ⟨by rfl, ?y9_8⟩) hHeld ?r9_8
  case y9_8 => (intro w hSw; (try dsimp only at hSw); go_split_ands; go_simp; try with_reducible rfl)
  try simp only [List.getElem_toArray, List.getElem_cons_succ, List.getElem_cons_zero, Act.put, List.setIfInBounds_toArray, List.set_cons_zero, List.set_cons_succ]
  refine wpAnyH_take (i := 11) (v := ?v11_9) rfl (by kernel_rfl) (by kernel_rfl) (by kernel_rfl) (fun _ _ _ h => h) (Or.inl ⟨by rfl, ?y11_9⟩) hHeld ?r11_9
  case y11_9 => (intro w hSw; (try dsimp only at hSw); go_split_ands; go_simp; try with_reducible rfl)
  try simp only [List.getElem_toArray, List.getElem_cons_succ, List.getElem_cons_zero, Act.put, List.setIfInBounds_toArray, List.set_cons_zero, List.set_cons_succ]
  refine wpAnyH_take (i := 12) (v := ?v12_10) rfl (by kernel_rfl) (by kernel_rfl) (by kernel_rfl) (fun _ _ _ h => h) (Or.inl ⟨by rfl, ?y12_10⟩) hHeld ?r12_10
  case y12_10 => (intro w hSw; (try dsimp only at hSw); go_split_ands; go_simp; try with_reducible rfl)
  try simp only [List.getElem_toArray, List.getElem_cons_succ, List.getElem_cons_zero, Act.put, List.setIfInBounds_toArray, List.set_cons_zero, List.set_cons_succ]
  refine wpAnyH_ready (rs := [10]) (by kernel_rfl) (by simp) ?_
  refine AllReadyH.cons rfl (fun K hK => ?_) AllReadyH.nil
  have hHeld' := hHeld
  try dsimp only at hHeld'
  go_split_ands
  go_simp
  refine (AC.out _).mono ?_
  rintro e j3 ⟨rfl, hn⟩
  replace hq := Lib.hid (hq.out.tr hn)
  clear hn
  refine hK.out _ _ ?_ (fun hHeld => ?_)
  · exact (KX.out _ hq.out)
  clear hK K
  try simp only [List.getElem_toArray, List.getElem_cons_succ, List.getElem_cons_zero, Act.put, List.setIfInBounds_toArray, List.set_cons_zero, List.set_cons_succ]
  refine wpAnyH_ready (rs := [13]) (by kernel_rfl) (by simp) ?_
  refine AllReadyH.cons rfl (fun K hK => ?_) AllReadyH.nil
  have hHeld' := hHeld
  try dsimp only at hHeld'
  go_split_ands
  go_simp
  refine (RAC.out _).mono ?_
  rintro e j4 ⟨rfl, hn⟩
  replace hq := Lib.hid (hq.out.tr hn)
  clear hn
  refine hK.out _ _ ?_ (fun hHeld => ?_)
  · exact (KX.out _ hq.out)
  clear hK K
  try simp only [List.getElem_toArray, List.getElem_cons_succ, List.getElem_cons_zero, Act.put, List.setIfInBounds_toArray, List.set_cons_zero, List.set_cons_succ]
  refine wpAnyH_take (i := 14) (v := ?v14_11) rfl (by kernel_rfl) (by kernel_rfl) (by kernel_rfl) (fun _ _ _ h => h) (Or.inl ⟨by rfl, ?y14_11⟩) hHeld ?r14_11
  case y14_11 => (intro w hSw; (try dsimp only at hSw); go_split_ands; go_simp; try with_reducible rfl)
  try simp only [List.getElem_toArray, List.getElem_cons_succ, List.getElem_cons_zero, Act.put, List.setIfInBounds_toArray, List.set_cons_zero, List.set_cons_succ]
  refine wpAnyH_take (i := 15) (v := ?v15_12) rfl (by kernel_rfl) (by kernel_rfl) (by kernel_rfl) (fun _ _ _ h => h) (Or.inl ⟨by rfl, ?y15_12⟩) hHeld ?r15_12
  case y15_12 => (intro w hSw; (try dsimp only at hSw); go_split_ands; go_simp; try with_reducible rfl)
  try simp only [List.getElem_toArray, List.getElem_cons_succ, List.getElem_cons_zero, Act.put, List.setIfInBounds_toArray, List.set_cons_zero, List.set_cons_succ]
  refine wpAnyH_take (i := 16) (v := ?v16_13) rfl (by kernel_rfl) (by kernel_rfl) (by kernel_rfl) (fun _ _ _ h => h) (Or.inl ⟨by rfl, ?y16_13⟩) hHeld ?r16_13
  case y16_13 => (intro w hSw; (try dsimp only at hSw); go_split_ands; go_simp; try with_reducible rfl)
  try simp only [List.getElem_toArray, List.getElem_cons_succ, List.getElem_cons_zero, Act.put, List.setIfInBounds_toArray, List.set_cons_zero, List.set_cons_succ]
  refine wpAnyH_take (i := 17) (v := ?v17_14) rfl (by kernel_rfl) (by kernel_rfl) (by kernel_rfl) (fun _ _ _ h => h) (Or.inl ⟨by rfl, ?y17_14⟩) hHeld ?r17_14
  case y17_14 => (intro w hSw; (try dsimp only at hSw); go_split_ands; go_simp; try with_reducible rfl)
  try simp only [List.getElem_toArray, List.getElem_cons_succ, List.getElem_cons_zero, Act.put, List.setIfInBounds_toArray, List.set_cons_zero, List.set_cons_succ]
  refine wpAnyH_take (i := 18) (v := ?v18_15) rfl (by kernel_rfl) (by kernel_rfl) (by kernel_rfl) (fun _ _ _ h => h) (Or.inl ⟨by rfl, ?y18_15⟩) hHeld ?r18_15
  case y18_15 => (intro w hSw; (try dsimp only at hSw); go_split_ands; go_simp; try with_reducible rfl)
  try simp only [List.getElem_toArray, List.getElem_cons_succ, List.getElem_cons_zero, Act.put, List.setIfInBounds_toArray, List.set_cons_zero, List.set_cons_succ]
  refine wpAnyH_take (i := 20) (v := ?v20_16) rfl (by kernel_rfl) (by kernel_rfl) (by kernel_rfl) (fun _ _ _ h => h) (Or.inl ⟨by rfl, ?y20_16⟩) hHeld ?r20_16
  case y20_16 => (intro w hSw; (try dsimp only at hSw); go_split_ands; go_simp; try with_reducible rfl)
  try simp only [List.getElem_toArray, List.getElem_cons_succ, List.getElem_cons_zero, Act.put, List.setIfInBounds_toArray, List.set_cons_zero, List.set_cons_succ]
  refine wpAnyH_take (i := 21) (v := ?v21_17) rfl (by kernel_rfl) (by kernel_rfl) (by kernel_rfl) (fun _ _ _ h => h) (Or.inl ⟨by rfl, ?y21_17⟩) hHeld ?r21_17
  case y21_17 => (intro w hSw; (try dsimp only at hSw); go_split_ands; go_simp; try with_reducible rfl)
  try simp only [List.getElem_toArray, List.getElem_cons_succ, List.getElem_cons_zero, Act.put, List.setIfInBounds_toArray, List.set_cons_zero, List.set_cons_succ]
  refine wpAnyH_ready (rs := [19]) (by kernel_rfl) (by simp) ?_
  refine AllReadyH.cons rfl (fun K hK => ?_) AllReadyH.nil
  have hHeld' := hHeld
  try dsimp only at hHeld'
  go_split_ands
  go_simp
  refine (BC.out _).mono ?_
  rintro e j5 ⟨rfl, hn⟩
  replace hq := Lib.hid (hq.out.tr hn)
  clear hn
  refine hK.out _ _ ?_ (fun hHeld => ?_)
  · exact (KX.out _ hq.out)
  clear hK K
  try simp only [List.getElem_toArray, List.getElem_cons_succ, List.getElem_cons_zero, Act.put, List.setIfInBounds_toArray, List.set_cons_zero, List.set_cons_succ]
  refine wpAnyH_ready (rs := [22]) (by kernel_rfl) (by simp) ?_
  refine AllReadyH.cons rfl (fun K hK => ?_) AllReadyH.nil
  have hHeld' := hHeld
  try dsimp only at hHeld'
  go_split_ands
  go_simp
  refine (RBC.out _).mono ?_
  rintro e j6 ⟨rfl, hn⟩
  replace hq := Lib.hid (hq.out.tr hn)
  clear hn
  refine hK.out _ _ ?_ (fun hHeld => ?_)
  · exact (KX.out _ hq.out)
  clear hK K
  try simp only [List.getElem_toArray, List.getElem_cons_succ, List.getElem_cons_zero, Act.put, List.setIfInBounds_toArray, List.set_cons_zero, List.set_cons_succ]
  refine wpAnyH_take (i := 23) (v := ?v23_18) rfl (by kernel_rfl) (by kernel_rfl) (by kernel_rfl) (fun _ _ _ h => h) (Or.inl ⟨by rfl, ?y23_18⟩) hHeld ?r23_18
  case y23_18 => (intro w hSw; (try dsimp only at hSw); go_split_ands; go_simp; try with_reducible rfl)
  try simp only [List.getElem_toArray, List.getElem_cons_succ, List.getElem_cons_zero, Act.put, List.setIfInBounds_toArray, List.set_cons_zero, List.set_cons_succ]
  refine wpAnyH_take (i := 24) (v := ?v24_19) rfl (by kernel_rfl) (by kernel_rfl) (by kernel_rfl) (fun _ _ _ h => h) (Or.inl ⟨by rfl, ?y24_19⟩) hHeld ?r24_19
  case y24_19 => (intro w hSw; (try dsimp only at hSw); go_split_ands; go_simp; try with_reducible rfl)
  try simp only [List.getElem_toArray, List.getElem_cons_succ, List.getElem_cons_zero, Act.put, List.setIfInBounds_toArray, List.set_cons_zero, List.set_cons_succ]
  refine wpAnyH_take (i := 25) (v := ?v25_20) rfl (by kernel_rfl) (by kernel_rfl) (by kernel_rfl) (fun _ _ _ h => h) (Or.inl ⟨by rfl, ?y25_20⟩) hHeld ?r25_20
  case y25_20 => (intro w hSw; (try dsimp only at hSw); go_split_ands; go_simp; try with_reducible rfl)
  try simp only [List.getElem_toArray, List.getElem_cons_succ, List.getElem_cons_zero, Act.put, List.setIfInBounds_toArray, List.set_cons_zero, List.set_cons_succ]
  refine wpAnyH_ready (rs := [26]) (by kernel_rfl) (by simp) ?_
  refine AllReadyH.cons rfl (fun K hK => ?_) AllReadyH.nil
  have hHeld' := hHeld
  try dsimp only at hHeld'
  go_split_ands
  go_simp
  refine (LV.out _).mono ?_
  rintro e j7 ⟨rfl, hn⟩
  replace hq := Lib.hid (hq.out.tr hn)
  clear hn
  refine hK.out _ _ ?_ (fun hHeld => ?_)
  · exact (KX.out _ hq.out)
  clear hK K
  try simp only [List.getElem_toArray, List.getElem_cons_succ, List.getElem_cons_zero, Act.put, List.setIfInBounds_toArray, List.set_cons_zero, List.set_cons_succ]
  refine wpAnyH_take (i := 27) (v := ?v27_21) rfl (by kernel_rfl) (by kernel_rfl) (by kernel_rfl) (fun _ _ _ h => h) (Or.inl ⟨by rfl, ?y27_21⟩) hHeld ?r27_21
  case y27_21 => (intro w hSw; (try dsimp only at hSw); go_split_ands; go_simp; try with_reducible rfl)
  try simp only [List.getElem_toArray, List.getElem_cons_succ, List.getElem_cons_zero, Act.put, List.setIfInBounds_toArray, List.set_cons_zero, List.set_cons_succ]
  refine wpAnyH_take (i := 28) (v := ?v28_22) rfl (by kernel_rfl) (by kernel_rfl) (by kernel_rfl) (fun _ _ _ h => h) (Or.inl ⟨by rfl, ?y28_22⟩) hHeld ?r28_22
  case y28_22 => (intro w hSw; (try dsimp only at hSw); go_split_ands; go_simp; try with_reducible rfl)
  try simp only [List.getElem_toArray, List.getElem_cons_succ, List.getElem_cons_zero, Act.put, List.setIfInBounds_toArray, List.set_cons_zero, List.set_cons_succ]
  refine wpAnyH_done (by kernel_rfl) ?_ _
  go_wp2_with fail
  go_ret
  exact ⟨rfl, hb0.out.tr hq.out⟩
end Go.Proofs.Ytpdcadlgdpkkoaa.matchRow
