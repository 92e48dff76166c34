/-
  Of two matches one comes ahead, or neither does, and what comes ahead of what comes ahead comes ahead, for any three rows of numbers.
-/
import Derived.Test.YtpdcadlgdpkkoaaMaN
namespace Go.Proofs.Ytpdcadlgdpkkoaa.matchOrder
open Go.ChangeShapes Go.WideShapes Go.ChangeAt Go.RowKit
open Go.Proofs.Ytpdcadlgdpkkoaa.mat Go.Proofs.Ytpdcadlgdpkkoaa.heads
set_option linter.unusedVariables false
set_option linter.unusedSimpArgs false

set_option maxRecDepth 20000 in
set_option maxHeartbeats 8000000 in
theorem walk {w : World} (v0 : Value) (z0 : List Int) (hv0 : IntsAt w v0 z0) (hz0 : i64ok z0) (hm0 : z0.length ≤ maxLen) (v1 : Value) (z1 : List Int) (hv1 : IntsAt w v1 z1) (hz1 : i64ok z1) (hm1 : z1.length ≤ maxLen) (v2 : Value) (z2 : List Int) (hv2 : IntsAt w v2 z2) (hz2 : i64ok z2) (hm2 : z2.length ≤ maxLen) :
    Calls Try.prog 5 #[v0, v1, v2] w fun e w' => e = .returned (.bool true) ∧ Bl w w' := by
  have M1 := match_mk z0 v0 w hv0 hz0 hm0
  have M2 := fun w' (hb : Bl w w') => match_mk z1 v1 w' (Rd.below hv1 hb) hz1 hm1
  have M3 := fun w' (hb : Bl w w') => match_mk z2 v2 w' (Rd.below hv2 hb) hz2 hm2
  have LV := Lib.hid lives_any
  have s1 := (mpF_is z0).2
  have s2 := (mpF_is z1).2
  have s3 := (mpF_is z2).2
  have l1 := mhA_len z0
  have l2 := mhA_len z1
  have l3 := mhA_len z2
  obtain ⟨p1, hp1⟩ : ∃ z_, (mpF z0) = z_ := ⟨_, rfl⟩
  obtain ⟨p2, hp2⟩ : ∃ z_, (mpF z1) = z_ := ⟨_, rfl⟩
  obtain ⟨p3, hp3⟩ : ∃ z_, (mpF z2) = z_ := ⟨_, rfl⟩
  obtain ⟨x1, hx1⟩ : ∃ z_, (mxF z0) = z_ := ⟨_, rfl⟩
  obtain ⟨x2, hx2⟩ : ∃ z_, (mxF z1) = z_ := ⟨_, rfl⟩
  obtain ⟨x3, hx3⟩ : ∃ z_, (mxF z2) = z_ := ⟨_, rfl⟩
  obtain ⟨A1, hA1⟩ : ∃ z_, (mhA z0) = z_ := ⟨_, rfl⟩
  obtain ⟨A2, hA2⟩ : ∃ z_, (mhA z1) = z_ := ⟨_, rfl⟩
  obtain ⟨A3, hA3⟩ : ∃ z_, (mhA z2) = z_ := ⟨_, rfl⟩
  simp only [hp1, hx1, hA1] at M1 s1 l1
  simp only [hp2, hx2, hA2] at M2 s2 l2
  simp only [hp3, hx3, hA3] at M3 s3 l3
  obtain ⟨n1, hn1⟩ : ∃ z_, (A1.length) = z_ := ⟨_, rfl⟩
  obtain ⟨n2, hn2⟩ : ∃ z_, (A2.length) = z_ := ⟨_, rfl⟩
  obtain ⟨n3, hn3⟩ : ∃ z_, (A3.length) = z_ := ⟨_, rfl⟩
  rw [hn1] at l1
  rw [hn2] at l2
  rw [hn3] at l3
  clear hp1 hp2 hp3 hx1 hx2 hx3 hA1 hA2 hA3 hv0 hv1 hv2 hz0 hz1 hz2 hm0 hm1 hm2
  have CM := Lib.hid (fun p x a n cap p' x' a' n' cap' w h1 h2 h3 h4 => cmp_any p x a n cap p' x' a' n' cap' w h1 h2 h3 h4)
  replace M1 := Lib.hid M1
  replace M2 := Lib.hid M2
  replace M3 := Lib.hid M3
  replace hn1 := Lib.hid hn1
  replace hn2 := Lib.hid hn2
  replace hn3 := Lib.hid hn3
  replace s1 := Lib.hid s1
  replace s2 := Lib.hid s2
  replace s3 := Lib.hid s3
  replace l1 := Lib.hid l1
  replace l2 := Lib.hid l2
  replace l3 := Lib.hid l3
  go_enter Try.func5, Try.ntmps5
  go_wp2_with fail
  replace hn1 := hn1.out
  replace hn2 := hn2.out
  replace hn3 := hn3.out
  with_reducible refine (M1.out).mono ?_
  rintro e w1 ⟨u, rfl, o1, q1⟩
  obtain ⟨a1, g1, k1, rfl, -⟩ := OwnB.row o1 (by decide)
  rw [hn1]
  have b1 := heap_alloc_new w1 (oM p1 x1 (.slice a1 n1 k1))
  have t1 := ((Bl.rfl' w).tr q1).al (oM p1 x1 (.slice a1 n1 k1))
  obtain ⟨y1, h1⟩ : ∃ X, w1.alloc (.cells #[.string p1, .bool x1, .slice a1 n1 k1] 29) = X := ⟨_, rfl⟩
  have hh : w1.alloc (oM p1 x1 (.slice a1 n1 k1)) = y1 := h1
  obtain ⟨r1, e1⟩ : ∃ X, w1.heap.size = X := ⟨_, rfl⟩
  have i1 := (Bl.rfl' w1).al (oM p1 x1 (.slice a1 n1 k1))
  rw [hh] at b1 t1 i1
  rw [e1] at b1
  clear hh o1
  replace b1 := Lib.hid b1
  replace t1 := Lib.hid t1
  replace h1 := Lib.hid h1
  replace e1 := Lib.hid e1
  replace q1 := Lib.hid q1
  replace i1 := Lib.hid i1
  go_upto_region 2 with fail
  rw [h1.out, e1.out]
  clear h1 e1
  replace M2 := Lib.hid (M2.out _ t1.out)
  go_wp2_with fail
  with_reducible refine (M2.out).mono ?_
  rintro e w2 ⟨u, rfl, o2, q2⟩
  obtain ⟨a2, g2, k2, rfl, -⟩ := OwnB.row o2 (by decide)
  rw [hn2]
  have b2 := heap_alloc_new w2 (oM p2 x2 (.slice a2 n2 k2))
  have t2 := (t1.out.tr q2).al (oM p2 x2 (.slice a2 n2 k2))
  obtain ⟨y2, h2⟩ : ∃ X, w2.alloc (.cells #[.string p2, .bool x2, .slice a2 n2 k2] 29) = X := ⟨_, rfl⟩
  have hh : w2.alloc (oM p2 x2 (.slice a2 n2 k2)) = y2 := h2
  obtain ⟨r2, e2⟩ : ∃ X, w2.heap.size = X := ⟨_, rfl⟩
  have i2 := (Bl.rfl' w2).al (oM p2 x2 (.slice a2 n2 k2))
  rw [hh] at b2 t2 i2
  rw [e2] at b2
  clear hh o2
  replace b2 := Lib.hid b2
  replace t2 := Lib.hid t2
  replace h2 := Lib.hid h2
  replace e2 := Lib.hid e2
  replace q2 := Lib.hid q2
  replace i2 := Lib.hid i2
  go_upto_region 3 with fail
  rw [h2.out, e2.out]
  clear h2 e2
  replace M3 := Lib.hid (M3.out _ t2.out)
  go_wp2_with fail
  with_reducible refine (M3.out).mono ?_
  rintro e w3 ⟨u, rfl, o3, q3⟩
  obtain ⟨a3, g3, k3, rfl, -⟩ := OwnB.row o3 (by decide)
  rw [hn3]
  have b3 := heap_alloc_new w3 (oM p3 x3 (.slice a3 n3 k3))
  have t3 := (t2.out.tr q3).al (oM p3 x3 (.slice a3 n3 k3))
  obtain ⟨y3, h3⟩ : ∃ X, w3.alloc (.cells #[.string p3, .bool x3, .slice a3 n3 k3] 29) = X := ⟨_, rfl⟩
  have hh : w3.alloc (oM p3 x3 (.slice a3 n3 k3)) = y3 := h3
  obtain ⟨r3, e3⟩ : ∃ X, w3.heap.size = X := ⟨_, rfl⟩
  have i3 := (Bl.rfl' w3).al (oM p3 x3 (.slice a3 n3 k3))
  rw [hh] at b3 t3 i3
  rw [e3] at b3
  clear hh o3
  replace b3 := Lib.hid b3
  replace t3 := Lib.hid t3
  replace h3 := Lib.hid h3
  replace e3 := Lib.hid e3
  replace q3 := Lib.hid q3
  replace i3 := Lib.hid i3
  go_upto_region 4 with fail
  rw [h3.out, e3.out]
  clear h3 e3
  have B1 := blk_bl b1.out (((q2.out.tr i2.out).tr q3.out).tr i3.out)
  have B2 := blk_bl b2.out (q3.out.tr i3.out)
  have B3 := b3.out
  have hb0 := t3.out
  clear b1 b2 b3 t1 t2 t3 q1 q2 q3 i1 i2 i3 M2 M3 M1
  have KX := Lib.hid (fun w' (hb : Bl y3 w') => (⟨cell_at (blk_bl B1 hb) 0, cell_at (blk_bl B1 hb) 1, cell_at (blk_bl B1 hb) 2, cell_at (blk_bl B2 hb) 0, cell_at (blk_bl B2 hb) 1, cell_at (blk_bl B2 hb) 2, cell_at (blk_bl B3 hb) 0, cell_at (blk_bl B3 hb) 1, cell_at (blk_bl B3 hb) 2⟩ :
    w'.cell? ⟨r1, 0, none⟩ = some (S p1) ∧ w'.cell? ⟨r1, 1, none⟩ = some (.bool x1) ∧ w'.cell? ⟨r1, 2, none⟩ = some (.slice a1 n1 k1) ∧ w'.cell? ⟨r2, 0, none⟩ = some (S p2) ∧ w'.cell? ⟨r2, 1, none⟩ = some (.bool x2) ∧ w'.cell? ⟨r2, 2, none⟩ = some (.slice a2 n2 k2) ∧ w'.cell? ⟨r3, 0, none⟩ = some (S p3) ∧ w'.cell? ⟨r3, 1, none⟩ = some (.bool x3) ∧ w'.cell? ⟨r3, 2, none⟩ = some (.slice a3 n3 k3)))
  have hq := Bl.rfl' y3
  have s1 := s1.out; have s2 := s2.out; have s3 := s3.out; have l1 := l1.out; have l2 := l2.out; have l3 := l3.out
  have AB := fun w => CM.out p1 x1 a1 n1 k1 p2 x2 a2 n2 k2 w (by omega) (by omega) (by omega) (by omega)
  have BC := fun w => CM.out p2 x2 a2 n2 k2 p3 x3 a3 n3 k3 w (by omega) (by omega) (by omega) (by omega)
  have AC := fun w => CM.out p1 x1 a1 n1 k1 p3 x3 a3 n3 k3 w (by omega) (by omega) (by omega) (by omega)
  have BA := fun w => CM.out p2 x2 a2 n2 k2 p1 x1 a1 n1 k1 w (by omega) (by omega) (by omega) (by omega)
  have AA := fun w => CM.out p1 x1 a1 n1 k1 p1 x1 a1 n1 k1 w (by omega) (by omega) (by omega) (by omega)
  have f1 := cmp_neg (bI x1) (partsN p1) n1 (bI x2) (partsN p2) n2
  have f2 := cmp_self (bI x1) (partsN p1) n1
  have f3 := cmp_in (bI x1) (partsN p1) n1 (bI x2) (partsN p2) n2
  have f4 := cmp_in (bI x2) (partsN p2) n2 (bI x3) (partsN p3) n3
  have f5 := cmp_in (bI x1) (partsN p1) n1 (bI x3) (partsN p3) n3
  have f6 := fun h1 h2 => cmp_tr (a := bI x1) (b := partsN p1) (c := n1) (d := bI x2) (e := partsN p2) (f := n2) (g := bI x3) (h := partsN p3) (i := n3) h1 h2
  have f7 := fun h1 => cmp_eq (a := bI x1) (b := partsN p1) (c := n1) (d := bI x2) (e := partsN p2) (f := n2) h1 (bI x3) (partsN p3) n3
  simp only [f2] at AA
  obtain ⟨ab, hab⟩ : ∃ z_, (cmp3 (bI x1) (partsN p1) n1 (bI x2) (partsN p2) n2) = z_ := ⟨_, rfl⟩
  obtain ⟨bc, hbc⟩ : ∃ z_, (cmp3 (bI x2) (partsN p2) n2 (bI x3) (partsN p3) n3) = z_ := ⟨_, rfl⟩
  obtain ⟨ac, hac⟩ : ∃ z_, (cmp3 (bI x1) (partsN p1) n1 (bI x3) (partsN p3) n3) = z_ := ⟨_, rfl⟩
  obtain ⟨ba, hba⟩ : ∃ z_, (cmp3 (bI x2) (partsN p2) n2 (bI x1) (partsN p1) n1) = z_ := ⟨_, rfl⟩
  simp only [hab, hbc, hac, hba] at AB BC AC BA f1 f3 f4 f5 f6 f7
  clear hab hbc hac hba f2 B1 B2 B3 CM hn1 hn2 hn3 s1 s2 s3 l1 l2 l3
  replace AB := Lib.hid AB
  replace BC := Lib.hid BC
  replace AC := Lib.hid AC
  replace BA := Lib.hid BA
  replace AA := Lib.hid AA
  replace hb0 := Lib.hid hb0
  replace f1 := Lib.hid f1
  replace f3 := Lib.hid f3
  replace f4 := Lib.hid f4
  replace f5 := Lib.hid f5
  replace f6 := Lib.hid f6
  replace f7 := Lib.hid f7
  have C := AB.out y3
  replace C := Lib.hid C
  have ⟨c10, c11, c12, c20, c21, c22, c30, c31, c32⟩ := KX.out _ hq
  replace hq := Lib.hid hq
  go_wp2_with fail
  with_reducible refine (C.out).mono ?_
  rintro e j1 ⟨rfl, hn⟩
  replace hq := hq.out.tr hn
  clear hn C c10 c11 c12 c20 c21 c22 c30 c31 c32
  have C := BC.out j1
  replace C := Lib.hid C
  have ⟨c10, c11, c12, c20, c21, c22, c30, c31, c32⟩ := KX.out _ hq
  replace hq := Lib.hid hq
  go_wp2_with fail
  with_reducible refine (C.out).mono ?_
  rintro e j2 ⟨rfl, hn⟩
  replace hq := hq.out.tr hn
  clear hn C c10 c11 c12 c20 c21 c22 c30 c31 c32
  have C := AC.out j2
  replace C := Lib.hid C
  have ⟨c10, c11, c12, c20, c21, c22, c30, c31, c32⟩ := KX.out _ hq
  replace hq := Lib.hid hq
  go_wp2_with fail
  with_reducible refine (C.out).mono ?_
  rintro e j3 ⟨rfl, hn⟩
  replace hq := hq.out.tr hn
  clear hn C c10 c11 c12 c20 c21 c22 c30 c31 c32
  have f1 := f1.out; have f3 := f3.out; have f4 := f4.out; have f5 := f5.out; have f6 := f6.out; have f7 := f7.out
  rcases (by omega : ab = -1 ∨ ab = 0 ∨ ab = 1) with rfl | rfl | rfl
  all_goals
    rcases (by omega : bc = -1 ∨ bc = 0 ∨ bc = 1) with rfl | rfl | rfl
  all_goals
    rcases (by omega : ac = -1 ∨ ac = 0 ∨ ac = 1) with rfl | rfl | rfl
  all_goals
    first
      | (exfalso; omega)
      | skip
  all_goals
    clear f3 f4 f5 f6 f7
    rcases (by omega : ba = -1 ∨ ba = 0 ∨ ba = 1) with rfl | rfl | rfl
  all_goals
    first
      | (exfalso; omega)
      | skip
  all_goals
    clear f1
    have C := BA.out j3
    replace C := Lib.hid C
    have ⟨c10, c11, c12, c20, c21, c22, c30, c31, c32⟩ := KX.out _ hq
    replace hq := Lib.hid hq
    go_wp2_with fail
    with_reducible refine (C.out).mono ?_
    rintro e j4 ⟨rfl, hn⟩
    replace hq := hq.out.tr hn
    clear hn C c10 c11 c12 c20 c21 c22 c30 c31 c32
    have C := AA.out j4
    replace C := Lib.hid C
    have ⟨c10, c11, c12, c20, c21, c22, c30, c31, c32⟩ := KX.out _ hq
    replace hq := Lib.hid hq
    go_wp2_with fail
    with_reducible refine (C.out).mono ?_
    rintro e j5 ⟨rfl, hn⟩
    replace hq := hq.out.tr hn
    clear hn C c10 c11 c12 c20 c21 c22 c30 c31 c32
    have ⟨c10, c11, c12, c20, c21, c22, c30, c31, c32⟩ := KX.out _ hq
    replace hq := Lib.hid hq
    go_wp2_with fail
    with_reducible refine (LV.out _).mono ?_
    rintro e j6 ⟨rfl, hn⟩
    have hz := hb0.out.tr (hq.out.tr hn)
    clear hn
    replace hz := Lib.hid hz
    go_wp2_with fail
    go_ret
    exact ⟨rfl, hz.out⟩
end Go.Proofs.Ytpdcadlgdpkkoaa.matchOrder
