/-
  Package rewrite: what heads become.
-/
import Derived.Test.YtnmehmlenbbfbaaRwF
import Derived.Test.YtnmehmlenbbfbaaHdO
namespace Go.Proofs.Ytnmehmlenbbfbaa.mat
open Go.ChangeShapes Go.WideShapes Go.ChangeAt Go.RowKit
open Go.Proofs.Ytnmehmlenbbfbaa.heads
set_option linter.unusedVariables false
set_option linter.unusedSimpArgs false

theorem drop_len' (A : List Hd) (N : List ByteArray) : (dropF A N).length ≤ A.length := List.length_filter_le _ _
theorem ok_drop {A : List Hd} (h : OkH A) (N : List ByteArray) : OkH (dropF A N) := by
  refine ⟨Nat.le_trans (drop_len' A N) h.len, ?_, fun x hx => h.may x (List.mem_filter.1 hx).1⟩
  exact (List.Sublist.map Hd.n (List.filter_sublist)).nodup h.two
set_option maxRecDepth 20000 in
set_option maxHeartbeats 4000000 in
theorem rwheads_any (pp : ByteArray) (ex : Bool) (px : ByteArray) (sv dv u : Value) (H A : List Hd) (D : List ByteArray) (w : World) (hS : HeadsAt w sv H) (hD : TextsAt w dv D) (hA : HeadsAt w u A) (h1 : H.length ≤ 8) (h2 : D.length ≤ 8) (h3 : A.length ≤ 8) :
    Calls Try.prog 18 #[rV pp ex px sv dv, u] w fun e w' => ∃ x, e = .returned x ∧ HeadsAt w' x (setP (dropF A D) H) ∧ Bl w w' := by
  have hlA := drop_len' A D
  obtain ⟨aa, ag, ao, ac, rfl, har⟩ := hA
  have HA := Lib.hid (fun w' (hb : Bl w w') => HeadsAt.bl (⟨aa, ag, ao, ac, rfl, har⟩ : HeadsAt w (.slice aa A.length ac) A) hb)
  obtain ⟨sa, sg, so, sc, rfl, hsr⟩ := hS
  have HS := Lib.hid (fun w' (hb : Bl w w') => HeadsAt.bl (⟨sa, sg, so, sc, rfl, hsr⟩ : HeadsAt w (.slice sa H.length sc) H) hb)
  obtain ⟨da, dg, d0, dc, rfl, hdr⟩ := hD
  have HD := Lib.hid (fun w' (hb : Bl w w') => TextsAt.bl (⟨da, dg, d0, dc, rfl, hdr⟩ : TextsAt w (.slice da D.length dc) D) hb)
  clear har hsr hdr
  have hX := heap_alloc_new w (oRu pp ex px (.slice sa H.length sc) (.slice da D.length dc))
  have hb := (Bl.rfl' w).al (oRu pp ex px (.slice sa H.length sc) (.slice da D.length dc))
  obtain ⟨r, hr⟩ : ∃ X, w.heap.size = X := ⟨_, rfl⟩
  obtain ⟨w1, hw1⟩ : ∃ X, w.alloc (oRu pp ex px (.slice sa H.length sc) (.slice da D.length dc)) = X := ⟨_, rfl⟩
  have hw1' : w.alloc (.cells #[.string pp, .bool ex, .slice none 0 0, .slice none 0 0, .int .i64 0, .int .i64 0, .int .i64 0, .int .i64 0, .string px, .slice sa H.length sc, .slice da D.length dc, .int .i64 0, .int .i64 0, .int .i64 0, .int .i64 0, .int .i64 0, .int .i64 0, .int .i64 0, .int .i64 0] 35) = w1 := hw1
  rw [hw1] at hX hb
  rw [hr] at hX
  clear hw1
  have g0 : Bl w1 w1.drew := (Bl.rfl' w1).dr
  obtain ⟨x0, hx0⟩ : ∃ X, w1.drew = X := ⟨_, rfl⟩
  rw [hx0] at g0
  have KX := Lib.hid (fun w' (h : Bl x0 w') => (⟨cell_at (blk_bl hX (g0.tr h)) 9, cell_at (blk_bl hX (g0.tr h)) 10⟩ : w'.cell? ⟨r, 9, none⟩ = some (.slice sa H.length sc) ∧ w'.cell? ⟨r, 10, none⟩ = some (.slice da D.length dc)))
  have hq := Lib.hid (Bl.rfl' x0)
  have hbx := Lib.hid (hb.tr g0)
  clear hX hb g0
  go_enter Try.func18, Try.ntmps18
  go_upto_region 1 with fail
  refine wp_region_held_drew (S := fun w' => w'.cell? ⟨r, 9, none⟩ = some (.slice sa H.length sc) ∧ w'.cell? ⟨r, 10, none⟩ = some (.slice da D.length dc)) (by kernel_rfl) ?_ (fun hHeld => ?_)
  · exact KX.out _ (by rw [hx0]; exact hq.out)
  rw [hx0] at hHeld ⊢
  clear hx0
  refine wpAnyH_take (i := 0) (v := ?v0_1) rfl (by kernel_rfl) (by kernel_rfl) (by kernel_rfl) (fun _ _ _ h => h) (Or.inl ⟨by rfl, ?y0_1⟩) hHeld ?r0_1
  case y0_1 => (intro w hSw; (try dsimp only at hSw); go_split_ands; go_simp; try with_reducible rfl)
  try simp only [List.getElem_toArray, List.getElem_cons_succ, List.getElem_cons_zero, Act.put, List.setIfInBounds_toArray, List.set_cons_zero, List.set_cons_succ]
  refine wpAnyH_take (i := 1) (v := ?v1_2) rfl (by kernel_rfl) (by kernel_rfl) (by kernel_rfl) (fun _ _ _ h => h) (Or.inl ⟨by rfl, ?y1_2⟩) hHeld ?r1_2
  case y1_2 => (intro w hSw; (try dsimp only at hSw); go_split_ands; go_simp; try with_reducible rfl)
  try simp only [List.getElem_toArray, List.getElem_cons_succ, List.getElem_cons_zero, Act.put, List.setIfInBounds_toArray, List.set_cons_zero, List.set_cons_succ]
  refine wpAnyH_take (i := 2) (v := ?v2_3) rfl (by kernel_rfl) (by kernel_rfl) (by kernel_rfl) (fun _ _ _ h => h) (Or.inl ⟨by rfl, ?y2_3⟩) hHeld ?r2_3
  case y2_3 => (intro w hSw; (try dsimp only at hSw); go_split_ands; go_simp; try with_reducible rfl)
  try simp only [List.getElem_toArray, List.getElem_cons_succ, List.getElem_cons_zero, Act.put, List.setIfInBounds_toArray, List.set_cons_zero, List.set_cons_succ]
  refine wpAnyH_take (i := 4) (v := ?v4_4) rfl (by kernel_rfl) (by kernel_rfl) (by kernel_rfl) (fun _ _ _ h => h) (Or.inl ⟨by rfl, ?y4_4⟩) hHeld ?r4_4
  case y4_4 => (intro w hSw; (try dsimp only at hSw); go_split_ands; go_simp; try with_reducible rfl)
  try simp only [List.getElem_toArray, List.getElem_cons_succ, List.getElem_cons_zero, Act.put, List.setIfInBounds_toArray, List.set_cons_zero, List.set_cons_succ]
  refine wpAnyH_take (i := 5) (v := ?v5_5) rfl (by kernel_rfl) (by kernel_rfl) (by kernel_rfl) (fun _ _ _ h => h) (Or.inl ⟨by rfl, ?y5_5⟩) hHeld ?r5_5
  case y5_5 => (intro w hSw; (try dsimp only at hSw); go_split_ands; go_simp; try with_reducible rfl)
  try simp only [List.getElem_toArray, List.getElem_cons_succ, List.getElem_cons_zero, Act.put, List.setIfInBounds_toArray, List.set_cons_zero, List.set_cons_succ]
  refine wpAnyH_ready (rs := [3]) (by kernel_rfl) (by simp) ?_
  refine AllReadyH.cons rfl (fun K hK => ?_) AllReadyH.nil
  have hHeld' := hHeld
  try dsimp only at hHeld'
  go_split_ands
  go_simp
  refine (drop_any _ A _ D _ (HA.out _ (hbx.out.tr hq.out)) (HD.out _ (hbx.out.tr hq.out)) (by omega) (by omega)).mono ?_
  rintro e w2 ⟨x2, rfl, hO, hn⟩
  have f2 := heads_own hO
  obtain ⟨pa, pg, po, pc, rfl, hpr⟩ := f2
  have F2 := Lib.hid (⟨pa, pg, po, pc, rfl, hpr⟩ : HeadsAt w2 (.slice pa (dropF A D).length pc) (dropF A D))
  replace hq := Lib.hid (hq.out.tr hn)
  clear hn hO hpr
  refine hK.out _ _ ?_ (fun hHeld => ?_)
  · exact (KX.out _ hq.out)
  clear hK K
  try simp only [List.getElem_toArray, List.getElem_cons_succ, List.getElem_cons_zero, Act.put, List.setIfInBounds_toArray, List.set_cons_zero, List.set_cons_succ]
  refine wpAnyH_ready (rs := [6]) (by kernel_rfl) (by simp) ?_
  refine AllReadyH.cons rfl (fun K hK => ?_) AllReadyH.nil
  have hHeld' := hHeld
  try dsimp only at hHeld'
  go_split_ands
  go_simp
  refine (set_any _ (dropF A D) _ H _ F2.out (HS.out _ (hbx.out.tr hq.out)) (by omega) (by omega)).mono ?_
  rintro e w3 ⟨x3, rfl, hO, hn⟩
  have F3 := Lib.hid (heads_own hO)
  obtain ⟨ya, yg, yc, yr, rfl, -⟩ := own_blk hO (by decide)
  replace hq := Lib.hid (hq.out.tr hn)
  clear hn hO
  refine hK.out _ _ ?_ (fun hHeld => ?_)
  · exact (KX.out _ hq.out)
  clear hK K
  try simp only [List.getElem_toArray, List.getElem_cons_succ, List.getElem_cons_zero, Act.put, List.setIfInBounds_toArray, List.set_cons_zero, List.set_cons_succ]
  refine wpAnyH_take (i := 7) (v := ?v7_6) rfl (by kernel_rfl) (by kernel_rfl) (by kernel_rfl) (fun _ _ _ h => h) (Or.inl ⟨by rfl, ?y7_6⟩) hHeld ?r7_6
  case y7_6 => (intro w hSw; (try dsimp only at hSw); go_split_ands; go_simp; try with_reducible rfl)
  try simp only [List.getElem_toArray, List.getElem_cons_succ, List.getElem_cons_zero, Act.put, List.setIfInBounds_toArray, List.set_cons_zero, List.set_cons_succ]
  refine wpAnyH_done (by kernel_rfl) ?_ _
  go_wp2_with fail
  go_ret
  exact ⟨_, rfl, F3.out, hbx.out.tr hq.out⟩
set_option maxRecDepth 20000 in
set_option maxHeartbeats 4000000 in
theorem r7heads_any (pp : ByteArray) (ex : Bool) (px : ByteArray) (sv dv u : Value) (H A : List Hd) (D : List ByteArray) (w : World) (hS : HeadsAt w sv H) (hD : TextsAt w dv D) (hA : HeadsAt w u A) (h1 : H.length ≤ 8) (h2 : D.length ≤ 8) (h3 : A.length ≤ 8) :
    Calls Try.prog 19 #[rV pp ex px sv dv, u] w fun e w' => ∃ x, e = .returned x ∧ HeadsAt w' x (setR (dropF A D) H) ∧ Bl w w' := by
  have hlA := drop_len' A D
  obtain ⟨aa, ag, ao, ac, rfl, har⟩ := hA
  have HA := Lib.hid (fun w' (hb : Bl w w') => HeadsAt.bl (⟨aa, ag, ao, ac, rfl, har⟩ : HeadsAt w (.slice aa A.length ac) A) hb)
  obtain ⟨sa, sg, so, sc, rfl, hsr⟩ := hS
  have HS := Lib.hid (fun w' (hb : Bl w w') => HeadsAt.bl (⟨sa, sg, so, sc, rfl, hsr⟩ : HeadsAt w (.slice sa H.length sc) H) hb)
  obtain ⟨da, dg, d0, dc, rfl, hdr⟩ := hD
  have HD := Lib.hid (fun w' (hb : Bl w w') => TextsAt.bl (⟨da, dg, d0, dc, rfl, hdr⟩ : TextsAt w (.slice da D.length dc) D) hb)
  clear har hsr hdr
  have hX := heap_alloc_new w (oRu pp ex px (.slice sa H.length sc) (.slice da D.length dc))
  have hb := (Bl.rfl' w).al (oRu pp ex px (.slice sa H.length sc) (.slice da D.length dc))
  obtain ⟨r, hr⟩ : ∃ X, w.heap.size = X := ⟨_, rfl⟩
  obtain ⟨w1, hw1⟩ : ∃ X, w.alloc (oRu pp ex px (.slice sa H.length sc) (.slice da D.length dc)) = X := ⟨_, rfl⟩
  have hw1' : w.alloc (.cells #[.string pp, .bool ex, .slice none 0 0, .slice none 0 0, .int .i64 0, .int .i64 0, .int .i64 0, .int .i64 0, .string px, .slice sa H.length sc, .slice da D.length dc, .int .i64 0, .int .i64 0, .int .i64 0, .int .i64 0, .int .i64 0, .int .i64 0, .int .i64 0, .int .i64 0] 35) = w1 := hw1
  rw [hw1] at hX hb
  rw [hr] at hX
  clear hw1
  have g0 : Bl w1 w1.drew := (Bl.rfl' w1).dr
  obtain ⟨x0, hx0⟩ : ∃ X, w1.drew = X := ⟨_, rfl⟩
  rw [hx0] at g0
  have KX := Lib.hid (fun w' (h : Bl x0 w') => (⟨cell_at (blk_bl hX (g0.tr h)) 9, cell_at (blk_bl hX (g0.tr h)) 10⟩ : w'.cell? ⟨r, 9, none⟩ = some (.slice sa H.length sc) ∧ w'.cell? ⟨r, 10, none⟩ = some (.slice da D.length dc)))
  have hq := Lib.hid (Bl.rfl' x0)
  have hbx := Lib.hid (hb.tr g0)
  clear hX hb g0
  go_enter Try.func19, Try.ntmps19
  go_upto_region 1 with fail
  refine wp_region_held_drew (S := fun w' => w'.cell? ⟨r, 9, none⟩ = some (.slice sa H.length sc) ∧ w'.cell? ⟨r, 10, none⟩ = some (.slice da D.length dc)) (by kernel_rfl) ?_ (fun hHeld => ?_)
  · exact KX.out _ (by rw [hx0]; exact hq.out)
  rw [hx0] at hHeld ⊢
  clear hx0
  refine wpAnyH_take (i := 0) (v := ?v0_7) rfl (by kernel_rfl) (by kernel_rfl) (by kernel_rfl) (fun _ _ _ h => h) (Or.inl ⟨by rfl, ?y0_7⟩) hHeld ?r0_7
  case y0_7 => (intro w hSw; (try dsimp only at hSw); go_split_ands; go_simp; try with_reducible rfl)
  try simp only [List.getElem_toArray, List.getElem_cons_succ, List.getElem_cons_zero, Act.put, List.setIfInBounds_toArray, List.set_cons_zero, List.set_cons_succ]
  refine wpAnyH_take (i := 1) (v := ?v1_8) rfl (by kernel_rfl) (by kernel_rfl) (by kernel_rfl) (fun _ _ _ h => h) (Or.inl ⟨by rfl, ?y1_8⟩) hHeld ?r1_8
  case y1_8 => (intro w hSw; (try dsimp only at hSw); go_split_ands; go_simp; try with_reducible rfl)
  try simp only [List.getElem_toArray, List.getElem_cons_succ, List.getElem_cons_zero, Act.put, List.setIfInBounds_toArray, List.set_cons_zero, List.set_cons_succ]
  refine wpAnyH_take (i := 2) (v := ?v2_9) rfl (by kernel_rfl) (by kernel_rfl) (by kernel_rfl) (fun _ _ _ h => h) (Or.inl ⟨by rfl, ?y2_9⟩) hHeld ?r2_9
  case y2_9 => (intro w hSw; (try dsimp only at hSw); go_split_ands; go_simp; try with_reducible rfl)
  try simp only [List.getElem_toArray, List.getElem_cons_succ, List.getElem_cons_zero, Act.put, List.setIfInBounds_toArray, List.set_cons_zero, List.set_cons_succ]
  refine wpAnyH_take (i := 4) (v := ?v4_10) rfl (by kernel_rfl) (by kernel_rfl) (by kernel_rfl) (fun _ _ _ h => h) (Or.inl ⟨by rfl, ?y4_10⟩) hHeld ?r4_10
  case y4_10 => (intro w hSw; (try dsimp only at hSw); go_split_ands; go_simp; try with_reducible rfl)
  try simp only [List.getElem_toArray, List.getElem_cons_succ, List.getElem_cons_zero, Act.put, List.setIfInBounds_toArray, List.set_cons_zero, List.set_cons_succ]
  refine wpAnyH_take (i := 5) (v := ?v5_11) rfl (by kernel_rfl) (by kernel_rfl) (by kernel_rfl) (fun _ _ _ h => h) (Or.inl ⟨by rfl, ?y5_11⟩) hHeld ?r5_11
  case y5_11 => (intro w hSw; (try dsimp only at hSw); go_split_ands; go_simp; try with_reducible rfl)
  try simp only [List.getElem_toArray, List.getElem_cons_succ, List.getElem_cons_zero, Act.put, List.setIfInBounds_toArray, List.set_cons_zero, List.set_cons_succ]
  refine wpAnyH_ready (rs := [3]) (by kernel_rfl) (by simp) ?_
  refine AllReadyH.cons rfl (fun K hK => ?_) AllReadyH.nil
  have hHeld' := hHeld
  try dsimp only at hHeld'
  go_split_ands
  go_simp
  refine (rdrop_any _ A _ D _ (HA.out _ (hbx.out.tr hq.out)) (HD.out _ (hbx.out.tr hq.out)) (by omega) (by omega)).mono ?_
  rintro e w2 ⟨x2, rfl, hO, hn⟩
  have f2 := heads_own hO
  obtain ⟨pa, pg, po, pc, rfl, hpr⟩ := f2
  have F2 := Lib.hid (⟨pa, pg, po, pc, rfl, hpr⟩ : HeadsAt w2 (.slice pa (dropF A D).length pc) (dropF A D))
  replace hq := Lib.hid (hq.out.tr hn)
  clear hn hO hpr
  refine hK.out _ _ ?_ (fun hHeld => ?_)
  · exact (KX.out _ hq.out)
  clear hK K
  try simp only [List.getElem_toArray, List.getElem_cons_succ, List.getElem_cons_zero, Act.put, List.setIfInBounds_toArray, List.set_cons_zero, List.set_cons_succ]
  refine wpAnyH_ready (rs := [6]) (by kernel_rfl) (by simp) ?_
  refine AllReadyH.cons rfl (fun K hK => ?_) AllReadyH.nil
  have hHeld' := hHeld
  try dsimp only at hHeld'
  go_split_ands
  go_simp
  refine (rset_any _ (dropF A D) _ H _ F2.out (HS.out _ (hbx.out.tr hq.out)) (by omega) (by omega)).mono ?_
  rintro e w3 ⟨x3, rfl, hO, hn⟩
  have F3 := Lib.hid (heads_own hO)
  obtain ⟨ya, yg, yc, yr, rfl, -⟩ := own_blk hO (by decide)
  replace hq := Lib.hid (hq.out.tr hn)
  clear hn hO
  refine hK.out _ _ ?_ (fun hHeld => ?_)
  · exact (KX.out _ hq.out)
  clear hK K
  try simp only [List.getElem_toArray, List.getElem_cons_succ, List.getElem_cons_zero, Act.put, List.setIfInBounds_toArray, List.set_cons_zero, List.set_cons_succ]
  refine wpAnyH_take (i := 7) (v := ?v7_12) rfl (by kernel_rfl) (by kernel_rfl) (by kernel_rfl) (fun _ _ _ h => h) (Or.inl ⟨by rfl, ?y7_12⟩) hHeld ?r7_12
  case y7_12 => (intro w hSw; (try dsimp only at hSw); go_split_ands; go_simp; try with_reducible rfl)
  try simp only [List.getElem_toArray, List.getElem_cons_succ, List.getElem_cons_zero, Act.put, List.setIfInBounds_toArray, List.set_cons_zero, List.set_cons_succ]
  refine wpAnyH_done (by kernel_rfl) ?_ _
  go_wp2_with fail
  go_ret
  exact ⟨_, rfl, F3.out, hbx.out.tr hq.out⟩
/-- A load of a whole rule, in a region that draws. -/
theorem exec_load_ru {o : Oper} {a : Act} {w : World} (x : Operand) (g : Nat) (pp : ByteArray) (ex : Bool) (px : ByteArray) (sv dv : Value)
    (hg : w.heap[g]? = some (oRu pp ex px sv dv)) (ho : o.op = .load 35 x) (hx : a.eval x = .pointer (some ⟨g, 0, none⟩)) : (execOp a.eval o).run Try.prog w = .ok (.value (rV pp ex px sv dv)) w := by
  unfold execOp
  simp only [ho, hx, Instr.loadAt, Instr.sureAddr, Sem.run_bind, Sem.run_pure, Result.andThen_ok, run_loadVar_row w g 35 35 (cRu pp ex px sv dv) (0, 0) _ hg Try.underlying35 rfl sizeRu]
end Go.Proofs.Ytnmehmlenbbfbaa.mat
