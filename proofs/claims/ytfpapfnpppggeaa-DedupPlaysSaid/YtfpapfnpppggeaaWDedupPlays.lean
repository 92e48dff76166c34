/-
  DedupPlays is true for every input: what is remembered, and how many keys are, is the document's. No condition.
-/
import Derived.Test.YtfpapfnpppggeaaDdK
namespace Go.Proofs.Ytfpapfnpppggeaa.dedupPlays
open Go.ChangeShapes Go.WideShapes Go.ChangeAt Go.RowKit
open Go.Proofs.Ytfpapfnpppggeaa.dedup
set_option linter.unusedVariables false
set_option linter.unusedSimpArgs false

theorem three {w : World} {y : Nat} {a : Int} {k : ByteArray} {b : Bool} {t : TypeId} (h : w.heap[y]? = some (.cells #[I a, sV k, .bool b] t (0, 0))) : w.cell? ⟨y, 0, none⟩ = some (I a) ∧ w.cell? ⟨y, 1, none⟩ = some (sV k) ∧ w.cell? ⟨y, 2, none⟩ = some (.bool b) := by
  refine ⟨?_, ?_, ?_⟩ <;> (rw [cell_at h]; rfl)

set_option maxHeartbeats 8000000 in
theorem walk {w : World} (a : Int) (l1 : -9223372036854775808 ≤ a) (u1 : a ≤ 9223372036854775807) (v0 : Value) (z0 : List Int) (hv0 : IntsAt w v0 z0) (hz0 : i64ok z0) (hm0 : z0.length ≤ maxLen) :
    Calls Try.prog 3 #[I a, v0] w fun e w' => e = .returned (.bool true) ∧ Bl w w' := by
  have A1 := Lib.hid (fun w => horizon_any a w l1 u1)
  have f0 := around_lo a 40 (by omega); have f1 := around_hi a 40 (by omega)
  obtain ⟨x, hx⟩ : ∃ z_, (around a 40) = z_ := ⟨_, rfl⟩
  rw [hx] at A1 f0 f1
  obtain ⟨h, hk⟩ : ∃ z, 1 + x = z := ⟨_, rfl⟩
  rw [hk] at A1
  have k0 : 1 ≤ h := by omega
  have k1 : h ≤ 40 := by omega
  have LV := Lib.hid lives_any
  have NW := Lib.hid (fun w' hb => new_two w w' hb h)
  obtain ⟨a0, cap0, rfl, R⟩ := rd_any hv0
  unfold maxLen at hm0
  obtain ⟨N, hN⟩ : ∃ z_, (z0.length) = z_ := ⟨_, rfl⟩
  rw [hN] at R hm0 ⊢
  have hzz : ∀ k, k < N → -9223372036854775808 ≤ z0.getD k 0 ∧ z0.getD k 0 ≤ 9223372036854775807 := fun k hk => hz0 _ (getD_mem z0 k 0 (by omega))
  clear hx hk l1 u1 f0 f1 hv0 hN hz0
  replace R := Lib.hid R
  replace hzz := Lib.hid hzz
  go_enter Try.func3, Try.ntmps3
  go_wp2_with fail
  with_reducible refine ((A1.out _)).mono ?_
  rintro e w' ⟨rfl, rfl⟩
  go_wp2_with fail
  with_reducible refine ((NW.out _ (Bl.rfl' _))).mono ?_
  rintro e w1 ⟨p, rfl, t1⟩
  clear NW A1
  replace t1 := Lib.hid t1
  go_wp2_with fail
  go_loopw [7, 8, 9] (fun vw nw i wr => ∃ (k : Nat) (W : List En) (t : Int), k ≤ N ∧ k ≤ 40 ∧ i = I k ∧ nw = I t ∧ 0 ≤ t ∧ t ≤ 69 * k ∧ W.length ≤ k ∧ His h t W ∧ Two w wr p h t W W vw []) (fun _ _ i _ => N - (intOf i).toNat)
  case atStart => exact ⟨0, [], 0, by omega, by omega, rfl, rfl, by omega, by omega, by simp, ⟨⟨List.Pairwise.nil, fun x hx => by simp at hx⟩, fun x hx => by simp at hx⟩, t1.out⟩
  case round =>
    obtain ⟨k, W, t, hkN, hk40, rfl, rfl, t0, t1', hWl, hH, hT⟩ := hrel
    have hbr := hT.blk
    clear t1
    by_cases hlt : k < N ∧ k < 40
    · obtain ⟨hlt, hlt2⟩ := hlt
      obtain ⟨b, off, rfl, hce⟩ := R.out wr hbr k hlt
      unfold icell at hce
      obtain ⟨y, hy⟩ : ∃ z_, (z0.getD k 0) = z_ := ⟨_, rfl⟩
      have hyb := hzz.out k hlt
      rw [hy] at hce hyb
      clear hy hzz R
      have OF := Lib.hid (of_any y wr hyb.1 hyb.2)
      have q0 := around_lo y 1000000 (by omega)
      obtain ⟨q, hq⟩ : ∃ z_, (around y 1000000) = z_ := ⟨_, rfl⟩
      rw [hq] at OF q0
      have hl := sL_le q q0
      obtain ⟨ll, hll⟩ : ∃ z_, (sL q) = z_ := ⟨_, rfl⟩
      obtain ⟨key, hkey⟩ : ∃ z_, (sK q) = z_ := ⟨_, rfl⟩
      obtain ⟨pu, hpu⟩ : ∃ z_, (sP q) = z_ := ⟨_, rfl⟩
      rw [hll, hkey, hpu] at OF
      rw [hll] at hl
      clear hq hll hkey hpu hyb q0
      replace hT := Lib.hid hT
      replace hbr := Lib.hid hbr
      replace hH := Lib.hid hH
      go_wp2_with fail
      with_reducible refine (OF.out).mono ?_
      rintro e w2 ⟨rfl, hb2⟩
      have hT2 := hT.out.add (hb2.al (.cells #[I ll, sV key, .bool pu] 28)) w2.heap.size _ hb2.size (heap_alloc_new _ _)
      clear hT hbr
      replace hT2 := Lib.hid hT2
      replace hb2 := Lib.hid hb2
      go_wp2_with fail
      obtain ⟨y0, hy0⟩ : ∃ z_, (w2.heap.size) = z_ := ⟨_, rfl⟩
      obtain ⟨w3, hw3⟩ : ∃ z_, (w2.alloc (.cells #[I ll, sV key, .bool pu] 28)) = z_ := ⟨_, rfl⟩
      rw [hy0, hw3] at hT2
      rw [hy0, hw3]
      clear hy0 hw3 hb2
      obtain ⟨t2, ht2⟩ : ∃ z, t + ll = z := ⟨_, rfl⟩
      rw [ht2]
      have hH2 := hH.out.le (b := t2) (by omega)
      have PH := Lib.hid (has_two (hT2.out.bl (Bl.rfl' w3).dr) (by omega) k0 (by omega) t2 key (by omega))
      have PR := Lib.hid (fun w' (x : Two w w' p h t2 W W u7 [(y0, .cells #[I ll, sV key, .bool pu] 28)]) => rhas_two x hH2 (by omega) k0 (by omega) key)
      have cs := fun w' (x : Two w w' p h t2 W W u7 [(y0, .cells #[I ll, sV key, .bool pu] 28)]) => three x.oth
      clear hH
      obtain ⟨B, hB⟩ : ∃ z_, (remB h t2 W key) = z_ := ⟨_, rfl⟩
      rw [hB] at PH PR
      replace cs := Lib.hid cs
      replace hH2 := Lib.hid hH2
      replace hB := Lib.hid hB
      refine wp_region_held_drew (S := fun w' => w'.cell? ⟨y0, 0, none⟩ = some (I ll) ∧ w'.cell? ⟨y0, 1, none⟩ = some (sV key) ∧ w'.cell? ⟨y0, 2, none⟩ = some (.bool pu)) (by kernel_rfl) ?_ (fun hHeld => ?_)
      · exact three hT2.out.oth
      refine wpAnyH_take (i := 0) (v := ?v0_1) rfl (by kernel_rfl) (by kernel_rfl) (by kernel_rfl) (fun _ _ _ h => h) (Or.inl ⟨by rfl, ?y0_1⟩) hHeld ?r0_1
      case y0_1 => (intro w hSw; (try dsimp only at hSw); go_split_ands; go_simp; try with_reducible rfl)
      try simp only [List.getElem_toArray, List.getElem_cons_succ, List.getElem_cons_zero, Act.put, List.setIfInBounds_toArray, List.set_cons_zero, List.set_cons_succ]
      refine wpAnyH_take (i := 1) (v := ?v1_2) rfl (by kernel_rfl) (by kernel_rfl) (by kernel_rfl) (fun _ _ _ h => h) (Or.inl ⟨by rfl, ?y1_2⟩) hHeld ?r1_2
      case y1_2 => (intro w hSw; (try dsimp only at hSw); go_split_ands; go_simp; try with_reducible rfl)
      try simp only [List.getElem_toArray, List.getElem_cons_succ, List.getElem_cons_zero, Act.put, List.setIfInBounds_toArray, List.set_cons_zero, List.set_cons_succ]
      refine wpAnyH_take (i := 2) (v := ?v2_3) rfl (by kernel_rfl) (by kernel_rfl) (by kernel_rfl) (fun _ _ _ h => h) (Or.inl ⟨by rfl, ?y2_3⟩) hHeld ?r2_3
      case y2_3 => (intro w hSw; (try dsimp only at hSw); go_split_ands; go_simp; try with_reducible rfl)
      try simp only [List.getElem_toArray, List.getElem_cons_succ, List.getElem_cons_zero, Act.put, List.setIfInBounds_toArray, List.set_cons_zero, List.set_cons_succ]
      refine wpAnyH_take (i := 3) (v := ?v3_4) rfl (by kernel_rfl) (by kernel_rfl) (by kernel_rfl) (fun _ _ _ h => h) (Or.inl ⟨by rfl, ?y3_4⟩) hHeld ?r3_4
      case y3_4 => (intro w hSw; (try dsimp only at hSw); go_split_ands; go_simp; try with_reducible rfl)
      try simp only [List.getElem_toArray, List.getElem_cons_succ, List.getElem_cons_zero, Act.put, List.setIfInBounds_toArray, List.set_cons_zero, List.set_cons_succ]
      refine wpAnyH_take (i := 5) (v := ?v5_5) rfl (by kernel_rfl) (by kernel_rfl) (by kernel_rfl) (fun _ _ _ h => h) (Or.inl ⟨by rfl, ?y5_5⟩) hHeld ?r5_5
      case y5_5 => (intro w hSw; (try dsimp only at hSw); go_split_ands; go_simp; try with_reducible rfl)
      try simp only [List.getElem_toArray, List.getElem_cons_succ, List.getElem_cons_zero, Act.put, List.setIfInBounds_toArray, List.set_cons_zero, List.set_cons_succ]
      refine wpAnyH_take (i := 6) (v := ?v6_6) rfl (by kernel_rfl) (by kernel_rfl) (by kernel_rfl) (fun _ _ _ h => h) (Or.inl ⟨by rfl, ?y6_6⟩) hHeld ?r6_6
      case y6_6 => (intro w hSw; (try dsimp only at hSw); go_split_ands; go_simp; try with_reducible rfl)
      try simp only [List.getElem_toArray, List.getElem_cons_succ, List.getElem_cons_zero, Act.put, List.setIfInBounds_toArray, List.set_cons_zero, List.set_cons_succ]
      refine wpAnyH_take (i := 7) (v := ?v7_7) rfl (by kernel_rfl) (by kernel_rfl) (by kernel_rfl) (fun _ _ _ h => h) (Or.inl ⟨by rfl, ?y7_7⟩) hHeld ?r7_7
      case y7_7 => (intro w hSw; (try dsimp only at hSw); go_split_ands; go_simp; try with_reducible rfl)
      try simp only [List.getElem_toArray, List.getElem_cons_succ, List.getElem_cons_zero, Act.put, List.setIfInBounds_toArray, List.set_cons_zero, List.set_cons_succ]
      refine wpAnyH_take (i := 8) (v := ?v8_8) rfl (by kernel_rfl) (by kernel_rfl) (by kernel_rfl) (fun _ _ _ h => h) (Or.inl ⟨by rfl, ?y8_8⟩) hHeld ?r8_8
      case y8_8 => (intro w hSw; (try dsimp only at hSw); go_split_ands; go_simp; try with_reducible rfl)
      try simp only [List.getElem_toArray, List.getElem_cons_succ, List.getElem_cons_zero, Act.put, List.setIfInBounds_toArray, List.set_cons_zero, List.set_cons_succ]
      refine wpAnyH_take (i := 9) (v := ?v9_9) rfl (by kernel_rfl) (by kernel_rfl) (by kernel_rfl) (fun _ _ _ h => h) (Or.inl ⟨by rfl, ?y9_9⟩) hHeld ?r9_9
      case y9_9 => (intro w hSw; (try dsimp only at hSw); go_split_ands; go_simp; try with_reducible rfl)
      try simp only [List.getElem_toArray, List.getElem_cons_succ, List.getElem_cons_zero, Act.put, List.setIfInBounds_toArray, List.set_cons_zero, List.set_cons_succ]
      refine wpAnyH_ready (rs := [4]) (by kernel_rfl) (by simp) ?_
      refine AllReadyH.cons rfl (fun K hK => ?_) AllReadyH.nil
      have hHeld' := hHeld
      try dsimp only at hHeld'
      go_split_ands
      go_simp
      refine PH.out.mono ?_
      rintro e w4 ⟨rfl, hT4⟩
      refine hK.out _ _ ?_ (fun hHeld => ?_)
      · exact cs.out _ hT4
      clear hK K
      try simp only [List.getElem_toArray, List.getElem_cons_succ, List.getElem_cons_zero, Act.put, List.setIfInBounds_toArray, List.set_cons_zero, List.set_cons_succ]
      refine wpAnyH_ready (rs := [10]) (by kernel_rfl) (by simp) ?_
      refine AllReadyH.cons rfl (fun K hK => ?_) AllReadyH.nil
      have hHeld' := hHeld
      try dsimp only at hHeld'
      go_split_ands
      go_simp
      refine (PR.out _ hT4).mono ?_
      rintro e w5 ⟨rfl, rfl⟩
      refine hK.out _ _ ?_ (fun hHeld => ?_)
      · exact cs.out _ hT4
      clear hK K
      try simp only [List.getElem_toArray, List.getElem_cons_succ, List.getElem_cons_zero, Act.put, List.setIfInBounds_toArray, List.set_cons_zero, List.set_cons_succ]
      refine wpAnyH_take (i := 11) (v := ?v11_10) rfl (by kernel_rfl) (by kernel_rfl) (by kernel_rfl) (fun _ _ _ h => h) (Or.inl ⟨by rfl, ?y11_10⟩) hHeld ?r11_10
      case y11_10 => (intro w hSw; (try dsimp only at hSw); go_split_ands; go_simp; try with_reducible rfl)
      try simp only [List.getElem_toArray, List.getElem_cons_succ, List.getElem_cons_zero, Act.put, List.setIfInBounds_toArray, List.set_cons_zero, List.set_cons_succ]
      refine wpAnyH_done (by kernel_rfl) ?_ _
      have hbb : (B != B) = false := by simp
      have hnn : ∀ m : Int, (m != m) = false := fun m => by simp
      obtain ⟨c0, c1, c2⟩ := cs.out _ hT4
      have hLp := putR_len' (h := h) (now := t2) (R := W) (key := key)
      have hHp := hH2.out.put (Int.le_refl _) (by omega) (by omega) key
      have wt : IntKind.i64.wrap ((k : Int) + 1) = ((k + 1 : Nat) : Int) := by rw [IntKind.wrap_i64]; omega
      clear PH PR hT2 cs
      replace hT4 := Lib.hid hT4
      replace hHp := Lib.hid hHp
      replace wt := Lib.hid wt
      cases pu with
      | false =>
        go_wp2_with fail
        refine (len_two hT4.out hH2.out (by omega) k0 (by omega) (Int.le_refl _)).mono ?_
        rintro e w5 ⟨rfl, hT5⟩
        clear hT4
        have RL := Lib.hid (rlen_two hT5 hH2.out (by omega) k0 (by omega))
        obtain ⟨m, hm⟩ : ∃ z_, (W.countP (fun x => decide (t2 < x.a + h))) = z_ := ⟨_, rfl⟩
        rw [hm] at RL
        rw [hm]
        clear hm c0 c1 c2
        have hT6 := hT5.drop
        have hnn := hnn (m : Int)
        clear hT5
        replace hT6 := Lib.hid hT6
        go_wp2_with fail
        with_reducible refine (RL.out).mono ?_
        rintro e w6 ⟨rfl, rfl⟩
        replace wt := wt.out
        go_wp2_with fail
        go_roundw
        case rel => exact ⟨k + 1, W, t2, by omega, by omega, by go_num, rfl, by omega, by omega, by omega, hH2.out, hT6.out⟩
        case measure => simp [intOf] <;> omega
      | true =>
        have PR := Lib.hid (rput_two hT4.out hH2.out (by omega) k0 (by omega) key)
        rw [hB.out] at PR
        go_wp2_with fail
        with_reducible refine (PR.out).mono ?_
        rintro e w5 ⟨v5, rfl, hT5⟩
        clear PR hT4 c0 c1 c2
        obtain ⟨c0, c1, c2⟩ := three hT5.oth
        have PP := Lib.hid (put_two hT5 (by omega) k0 (by omega) t2 key (Int.le_refl _) (by omega) (by omega))
        rw [hB.out] at PP
        clear hT5
        have hbb : ((!B) != (!B)) = false := by simp
        go_wp2_with fail
        with_reducible refine (PP.out).mono ?_
        rintro e w6 ⟨rfl, hT6⟩
        clear PP c0 c1 c2
        replace hT6 := Lib.hid hT6
        go_wp2_with fail
        refine (len_two hT6.out hHp.out (by omega) k0 (by omega) (Int.le_refl _)).mono ?_
        rintro e w7 ⟨rfl, hT7⟩
        have RL := Lib.hid (rlen_two hT7 hHp.out (by omega) k0 (by omega))
        obtain ⟨V, hV⟩ : ∃ z_, (putR h t2 W key) = z_ := ⟨_, rfl⟩
        rw [hV] at RL hHp hT7 hLp
        obtain ⟨m, hm⟩ : ∃ z_, (V.countP (fun x => decide (t2 < x.a + h))) = z_ := ⟨_, rfl⟩
        rw [hm] at RL
        rw [hV, hm]
        clear hm hT6
        have hT8 := hT7.drop
        have hnn := hnn (m : Int)
        clear hT7
        replace hT8 := Lib.hid hT8
        go_wp2_with fail
        with_reducible refine (RL.out).mono ?_
        rintro e w6 ⟨rfl, rfl⟩
        replace wt := wt.out
        go_wp2_with fail
        go_roundw
        case rel => exact ⟨k + 1, V, t2, by omega, by omega, by go_num, rfl, by omega, by omega, by omega, hHp.out, hT8.out⟩
        case measure => simp [intOf] <;> omega
    · have hb := Lib.hid hbr
      clear hT hbr hH R hzz
      by_cases h1 : k < N
      · obtain rfl : k = 40 := by omega
        go_wp2_with fail
        with_reducible refine ((LV.out _)).mono ?_
        rintro e w11 ⟨rfl, hb11⟩
        go_wp2_with fail
        go_ret
        exact ⟨rfl, hb.out.tr hb11⟩
      · obtain rfl : k = N := by omega
        go_wp2_with fail
        with_reducible refine ((LV.out _)).mono ?_
        rintro e w11 ⟨rfl, hb11⟩
        go_wp2_with fail
        go_ret
        exact ⟨rfl, hb.out.tr hb11⟩
end Go.Proofs.Ytfpapfnpppggeaa.dedupPlays
