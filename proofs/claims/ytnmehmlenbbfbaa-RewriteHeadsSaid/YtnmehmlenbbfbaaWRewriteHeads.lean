/-
  What heads become is the document's, for any rule and any heads (of numbers).
-/
import Derived.Test.YtnmehmlenbbfbaaRwG
namespace Go.Proofs.Ytnmehmlenbbfbaa.rewriteHeads
open Go.ChangeShapes Go.WideShapes Go.ChangeAt Go.RowKit
open Go.Proofs.Ytnmehmlenbbfbaa.mat Go.Proofs.Ytnmehmlenbbfbaa.heads
set_option linter.unusedVariables false
set_option linter.unusedSimpArgs false

set_option maxRecDepth 20000 in
set_option maxHeartbeats 8000000 in
theorem walk {w : World} (v0 : Value) (z0 : List Int) (hv0 : IntsAt w v0 z0 ∧ Room v0) (hz0 : i64ok z0) (hm0 : z0.length ≤ maxLen) (v1 : Value) (z1 : List Int) (hv1 : IntsAt w v1 z1) (hz1 : i64ok z1) (hm1 : z1.length ≤ maxLen) :
    Calls Try.prog 4 #[v0, v1] w fun e w' => e = .returned (.bool true) ∧ Bl w w' := by
  have R0 := rule_mk z0 v0 w (ints_r hv0.1 hv0.2) hz0 hm0
  have M2 := Lib.hid (fun w' (hb : Bl w w') => heads_mk z1 v1 w' (Rd.below hv1 hb) hz1 hm1)
  have LV := Lib.hid rwlives_any
  have okA := ok_heads z1 (min z1.length 12)
  obtain ⟨pp, hpp⟩ : ∃ z_, (ofF (z0.getD 0 0)) = z_ := ⟨_, rfl⟩
  obtain ⟨ex, hex⟩ : ∃ z_, (decide (around (z0.getD 2 0) 4 = 1)) = z_ := ⟨_, rfl⟩
  obtain ⟨px, hpx⟩ : ∃ z_, (rpx z0) = z_ := ⟨_, rfl⟩
  obtain ⟨A, hA⟩ : ∃ z_, (headsF z1 (min z1.length 12)) = z_ := ⟨_, rfl⟩
  rw [hpp, hex, hpx] at R0
  simp only [hA] at M2
  rw [hA] at okA
  clear hpp hex hpx hA hv0 hv1 hz0 hz1 hm0 hm1
  replace R0 := Lib.hid R0
  replace okA := Lib.hid okA
  go_enter Try.func4, Try.ntmps4
  go_wp2_with fail
  with_reducible refine (R0.out).mono ?_
  rintro e w1 ⟨sv, dv, H, D, rfl, hS, hD, hb1, okH, hlD⟩
  obtain ⟨sa, sg, so, sc, rfl, hsr⟩ := hS
  replace hS : HeadsAt w1 (.slice sa H.length sc) H := ⟨sa, sg, so, sc, rfl, hsr⟩
  obtain ⟨da, dg, d0, dc, rfl, hdr⟩ := hD
  replace hD : TextsAt w1 (.slice da D.length dc) D := ⟨da, dg, d0, dc, rfl, hdr⟩
  clear hsr hdr R0
  replace hS := Lib.hid hS
  replace hD := Lib.hid hD
  replace hb1 := Lib.hid hb1
  replace okH := Lib.hid okH
  go_upto_region 2 with (refine wpList_store_row rfl 35 _ _ rfl w1.heap.size _ rfl rfl 35 _ (heap_alloc_new w1 (oRu ⟨#[]⟩ false ⟨#[]⟩ nilS nilS)) sizeRu rfl (by kernel_rfl) ?_)
  obtain ⟨b2, i2, s2⟩ := ru_set w1 pp ex px (.slice sa H.length sc) (.slice da D.length dc) (cRu ⟨#[]⟩ false ⟨#[]⟩ nilS nilS) rfl
  obtain ⟨w2, h2⟩ : ∃ X, (w1.alloc (.cells (cRu ⟨#[]⟩ false ⟨#[]⟩ nilS nilS) 35)).setRow w1.heap.size (cRu pp ex px (.slice sa H.length sc) (.slice da D.length dc)) = X := ⟨_, rfl⟩
  rw [h2] at b2 i2 s2 ⊢
  obtain ⟨r, e2⟩ : ∃ X, w1.heap.size = X := ⟨_, rfl⟩
  rw [e2] at b2 ⊢
  have hS2 := hS.out.bl i2
  have hD2 := hD.out.bl i2
  have hb2 := hb1.out.tr i2
  clear h2 s2 e2 hS hD hb1 i2
  replace b2 := Lib.hid b2
  replace hS2 := Lib.hid hS2
  replace hD2 := Lib.hid hD2
  replace hb2 := Lib.hid hb2
  simp only [Act.put, List.setIfInBounds_toArray, List.set_cons_zero, List.set_cons_succ]
  replace M2 := Lib.hid (M2.out _ hb2.out)
  go_upto_region 3 with (with_reducible refine M2.out.mono ?_; rintro e w3 ⟨vA, rfl, hO, hn⟩)
  have hA0 := heads_own hO
  obtain ⟨aa, ag, ao, ac, rfl, har⟩ := hA0
  replace hA0 : HeadsAt w3 (.slice aa A.length ac) A := ⟨aa, ag, ao, ac, rfl, har⟩
  have b3 := blk_bl b2.out hn
  have hS3 := hS2.out.bl hn
  have hD3 := hD2.out.bl hn
  have hb3 := hb2.out.tr hn
  clear har hO hn b2 hS2 hD2 hb2 M2
  have g0 : Bl w3 w3.drew := (Bl.rfl' w3).dr
  obtain ⟨x0, hx0⟩ : ∃ X, w3.drew = X := ⟨_, rfl⟩
  rw [hx0] at g0
  have KX := Lib.hid (fun w' (h : Bl x0 w') => blk_bl b3 (g0.tr h))
  have HS := Lib.hid (fun w' (h : Bl x0 w') => hS3.bl (g0.tr h))
  have HD := Lib.hid (fun w' (h : Bl x0 w') => hD3.bl (g0.tr h))
  have HA := Lib.hid (fun w' (h : Bl x0 w') => hA0.bl (g0.tr h))
  have hbz := Lib.hid (hb3.tr g0)
  have hq := Lib.hid (Bl.rfl' x0)
  have l1 := okH.out.len
  have l2 := okA.out.len
  obtain ⟨same, okZ⟩ := set_same okH.out.may (ok_drop okA.out D)
  have l3 := okZ.len
  clear b3 hS3 hD3 hA0 hb3 g0 okZ okH okA
  replace same := Lib.hid same
  refine wp_region_held_drew (S := fun w' => w'.heap[r]? = some (oRu pp ex px (.slice sa H.length sc) (.slice da D.length dc))) (by kernel_rfl) ?_ (fun hHeld => ?_)
  · exact KX.out _ (by rw [hx0]; exact hq.out)
  rw [hx0] at hHeld ⊢
  clear hx0
  refine wpAnyH_take (i := 0) (v := rV pp ex px (.slice sa H.length sc) (.slice da D.length dc)) rfl (by kernel_rfl) (by kernel_rfl) (by kernel_rfl) (fun _ _ _ h => h) (Or.inl ⟨by rfl, fun w hSw => exec_load_ru _ r _ _ _ _ _ hSw rfl rfl⟩) hHeld ?_
  try simp only [List.getElem_toArray, List.getElem_cons_succ, List.getElem_cons_zero, Act.put, List.setIfInBounds_toArray, List.set_cons_zero, List.set_cons_succ]
  refine wpAnyH_take (i := 3) (v := rV pp ex px (.slice sa H.length sc) (.slice da D.length dc)) rfl (by kernel_rfl) (by kernel_rfl) (by kernel_rfl) (fun _ _ _ h => h) (Or.inl ⟨by rfl, fun w hSw => exec_load_ru _ r _ _ _ _ _ hSw rfl rfl⟩) hHeld ?_
  try simp only [List.getElem_toArray, List.getElem_cons_succ, List.getElem_cons_zero, Act.put, List.setIfInBounds_toArray, List.set_cons_zero, List.set_cons_succ]
  refine wpAnyH_take (i := 1) (v := ?v1_1) rfl (by kernel_rfl) (by kernel_rfl) (by kernel_rfl) (fun _ _ _ h => h) (Or.inl ⟨by rfl, ?y1_1⟩) hHeld ?r1_1
  case y1_1 => (intro w hSw; (try dsimp only at hSw); go_split_ands; go_simp; try with_reducible rfl)
  try simp only [List.getElem_toArray, List.getElem_cons_succ, List.getElem_cons_zero, Act.put, List.setIfInBounds_toArray, List.set_cons_zero, List.set_cons_succ]
  refine wpAnyH_take (i := 4) (v := ?v4_2) rfl (by kernel_rfl) (by kernel_rfl) (by kernel_rfl) (fun _ _ _ h => h) (Or.inl ⟨by rfl, ?y4_2⟩) hHeld ?r4_2
  case y4_2 => (intro w hSw; (try dsimp only at hSw); go_split_ands; go_simp; try with_reducible rfl)
  try simp only [List.getElem_toArray, List.getElem_cons_succ, List.getElem_cons_zero, Act.put, List.setIfInBounds_toArray, List.set_cons_zero, List.set_cons_succ]
  refine wpAnyH_ready (rs := [2]) (by kernel_rfl) (by simp) ?_
  refine AllReadyH.cons rfl (fun K hK => ?_) AllReadyH.nil
  have hHeld' := hHeld
  try dsimp only at hHeld'
  go_split_ands
  go_simp
  refine (rwheads_any pp ex px _ _ _ H A D _ (HS.out _ hq.out) (HD.out _ hq.out) (HA.out _ hq.out) (by omega) (by omega) (by omega)).mono ?_
  rintro e x1 ⟨yx1, rfl, hx, hn⟩
  obtain ⟨ax1, gx1, ox1, cx1, rfl, hr⟩ := hx
  have P1 := Lib.hid (⟨ax1, gx1, ox1, cx1, rfl, hr⟩ : HeadsAt x1 _ _)
  skip
  replace hq := Lib.hid (hq.out.tr hn)
  clear hn hr
  refine hK.out _ _ ?_ (fun hHeld => ?_)
  · exact (KX.out _ hq.out)
  clear hK K
  try simp only [List.getElem_toArray, List.getElem_cons_succ, List.getElem_cons_zero, Act.put, List.setIfInBounds_toArray, List.set_cons_zero, List.set_cons_succ]
  refine wpAnyH_ready (rs := [5]) (by kernel_rfl) (by simp) ?_
  refine AllReadyH.cons rfl (fun K hK => ?_) AllReadyH.nil
  have hHeld' := hHeld
  try dsimp only at hHeld'
  go_split_ands
  go_simp
  refine (r7heads_any pp ex px _ _ _ H A D _ (HS.out _ hq.out) (HD.out _ hq.out) (HA.out _ hq.out) (by omega) (by omega) (by omega)).mono ?_
  rintro e x2 ⟨yx2, rfl, hx, hn⟩
  obtain ⟨ax2, gx2, ox2, cx2, rfl, hr⟩ := hx
  have P2 := Lib.hid (⟨ax2, gx2, ox2, cx2, rfl, hr⟩ : HeadsAt x2 _ _)
  replace P1 := Lib.hid (HeadsAt.bl P1.out hn)
  replace hq := Lib.hid (hq.out.tr hn)
  clear hn hr
  refine hK.out _ _ ?_ (fun hHeld => ?_)
  · exact (KX.out _ hq.out)
  clear hK K
  try simp only [List.getElem_toArray, List.getElem_cons_succ, List.getElem_cons_zero, Act.put, List.setIfInBounds_toArray, List.set_cons_zero, List.set_cons_succ]
  refine wpAnyH_ready (rs := [6]) (by kernel_rfl) (by simp) ?_
  refine AllReadyH.cons rfl (fun K hK => ?_) AllReadyH.nil
  have hHeld' := hHeld
  try dsimp only at hHeld'
  go_split_ands
  go_simp
  have RW := row_any _ _ _ _ _ P1.out P2.out (by rw [same.out]; omega) (by omega)
  rw [decide_eq_true same.out] at RW
  refine RW.mono ?_
  rintro e x3 ⟨rfl, hn⟩
  replace hq := Lib.hid (hq.out.tr hn)
  clear hn RW
  refine hK.out _ _ ?_ (fun hHeld => ?_)
  · exact (KX.out _ hq.out)
  clear hK K
  try simp only [List.getElem_toArray, List.getElem_cons_succ, List.getElem_cons_zero, Act.put, List.setIfInBounds_toArray, List.set_cons_zero, List.set_cons_succ]
  refine wpAnyH_take (i := 7) (v := ?v7_3) rfl (by kernel_rfl) (by kernel_rfl) (by kernel_rfl) (fun _ _ _ h => h) (Or.inl ⟨by rfl, ?y7_3⟩) hHeld ?r7_3
  case y7_3 => (intro w hSw; (try dsimp only at hSw); go_split_ands; go_simp; try with_reducible rfl)
  try simp only [List.getElem_toArray, List.getElem_cons_succ, List.getElem_cons_zero, Act.put, List.setIfInBounds_toArray, List.set_cons_zero, List.set_cons_succ]
  refine wpAnyH_ready (rs := [8]) (by kernel_rfl) (by simp) ?_
  refine AllReadyH.cons rfl (fun K hK => ?_) AllReadyH.nil
  have hHeld' := hHeld
  try dsimp only at hHeld'
  go_split_ands
  go_simp
  refine (LV.out _).mono ?_
  rintro e x4 ⟨rfl, hn⟩
  replace hq := Lib.hid (hq.out.tr hn)
  clear hn
  refine hK.out _ _ ?_ (fun hHeld => ?_)
  · exact (KX.out _ hq.out)
  clear hK K
  try simp only [List.getElem_toArray, List.getElem_cons_succ, List.getElem_cons_zero, Act.put, List.setIfInBounds_toArray, List.set_cons_zero, List.set_cons_succ]
  refine wpAnyH_take (i := 9) (v := ?v9_4) rfl (by kernel_rfl) (by kernel_rfl) (by kernel_rfl) (fun _ _ _ h => h) (Or.inl ⟨by rfl, ?y9_4⟩) hHeld ?r9_4
  case y9_4 => (intro w hSw; (try dsimp only at hSw); go_split_ands; go_simp; try with_reducible rfl)
  try simp only [List.getElem_toArray, List.getElem_cons_succ, List.getElem_cons_zero, Act.put, List.setIfInBounds_toArray, List.set_cons_zero, List.set_cons_succ]
  refine wpAnyH_take (i := 10) (v := ?v10_5) rfl (by kernel_rfl) (by kernel_rfl) (by kernel_rfl) (fun _ _ _ h => h) (Or.inl ⟨by rfl, ?y10_5⟩) hHeld ?r10_5
  case y10_5 => (intro w hSw; (try dsimp only at hSw); go_split_ands; go_simp; try with_reducible rfl)
  try simp only [List.getElem_toArray, List.getElem_cons_succ, List.getElem_cons_zero, Act.put, List.setIfInBounds_toArray, List.set_cons_zero, List.set_cons_succ]
  refine wpAnyH_done (by kernel_rfl) ?_ _
  go_wp2_with fail
  go_ret
  exact ⟨rfl, hbz.out.tr hq.out⟩
end Go.Proofs.Ytnmehmlenbbfbaa.rewriteHeads
