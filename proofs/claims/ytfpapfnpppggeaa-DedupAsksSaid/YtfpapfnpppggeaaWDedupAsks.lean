/-
  DedupAsks is true for every input: asking changes nothing, however often. No condition.
-/
import Derived.Test.YtfpapfnpppggeaaDdL
namespace Go.Proofs.Ytfpapfnpppggeaa.dedupAsks
open Go.ChangeShapes Go.WideShapes Go.ChangeAt Go.RowKit
open Go.Proofs.Ytfpapfnpppggeaa.dedup
set_option linter.unusedVariables false
set_option linter.unusedSimpArgs false

theorem none_left {h n t : Int} {W : List En} (hi : ∀ x ∈ W, x.a ≤ n) (ht : n + h ≤ t) : W.countP (fun x => decide (t < x.a + h)) = 0 := by
  rw [List.countP_eq_zero]
  intro x hx
  have := hi x hx
  simp
  omega


set_option maxHeartbeats 8000000 in
theorem walk {w : World} (a : Int) (l1 : -9223372036854775808 ≤ a) (u1 : a ≤ 9223372036854775807) (v0 : Value) (z0 : List Int) (hv0 : IntsAt w v0 z0) (hz0 : i64ok z0) (hm0 : z0.length ≤ maxLen) :
    Calls Try.prog 7 #[I a, v0] w fun e w' => e = .returned (.bool true) ∧ Bl w w' := by
  have A1 := Lib.hid (fun w => horizon_any a w l1 u1)
  have f0 := around_lo a 40 (by omega); have f1 := around_hi a 40 (by omega)
  obtain ⟨x, hx⟩ : ∃ z_, (around a 40) = z_ := ⟨_, rfl⟩
  rw [hx] at A1 f0 f1
  obtain ⟨h, hk⟩ : ∃ z, 1 + x = z := ⟨_, rfl⟩
  rw [hk] at A1
  have k0 : 1 ≤ h := by omega
  have k1 : h ≤ 40 := by omega
  have LV := Lib.hid lives_any
  have NW := Lib.hid (fun w' hb => new_two w w' hb h)
  obtain ⟨a0, cap0, rfl, R⟩ := rd_any hv0
  unfold maxLen at hm0
  obtain ⟨N, hN⟩ : ∃ z_, (z0.length) = z_ := ⟨_, rfl⟩
  rw [hN] at R hm0 ⊢
  have hzz : ∀ k, k < N → -9223372036854775808 ≤ z0.getD k 0 ∧ z0.getD k 0 ≤ 9223372036854775807 := fun k hk => hz0 _ (getD_mem z0 k 0 (by omega))
  clear hx hk l1 u1 f0 f1 hv0 hN hz0
  replace R := Lib.hid R
  replace hzz := Lib.hid hzz
  go_enter Try.func7, Try.ntmps7
  go_wp2_with fail
  with_reducible refine ((A1.out _)).mono ?_
  rintro e w' ⟨rfl, rfl⟩
  go_wp2_with fail
  with_reducible refine ((NW.out _ (Bl.rfl' _))).mono ?_
  rintro e w1 ⟨p, rfl, t1⟩
  clear NW A1
  have NW2 := Lib.hid (new_pr t1 h)
  clear t1
  go_wp2_with fail
  with_reducible refine (NW2.out).mono ?_
  rintro e w2 ⟨p2, rfl, t2⟩
  clear NW2
  replace t2 := Lib.hid t2
  go_wp2_with fail
  go_loopw [8, 9] (fun nw i wr => ∃ (k : Nat) (W : List En) (t r s : Int), k ≤ N ∧ k ≤ 40 ∧ i = I k ∧ nw = I t ∧ 0 ≤ t ∧ t ≤ 69 * k ∧ W.length ≤ k ∧ r ≤ t ∧ s ≤ t ∧ His h t W ∧ Pr w wr p h r W p2 h s W []) (fun _ i _ => N - (intOf i).toNat)
  case atStart => exact ⟨0, [], 0, 0, 0, by omega, by omega, rfl, rfl, by omega, by omega, by simp, by omega, by omega, ⟨⟨List.Pairwise.nil, fun x hx => by simp at hx⟩, fun x hx => by simp at hx⟩, t2.out⟩
  case round =>
    obtain ⟨k, W, t, r0, s, hkN, hk40, rfl, rfl, t0, t1', hWl, hrt, hst, hH, hT⟩ := hrel
    have hbr := hT.blk
    clear t2
    by_cases hlt : k < N ∧ k < 40
    · obtain ⟨hlt, hlt2⟩ := hlt
      obtain ⟨b, off, rfl, hce⟩ := R.out wr hbr k hlt
      unfold icell at hce
      obtain ⟨y, hy⟩ : ∃ z_, (z0.getD k 0) = z_ := ⟨_, rfl⟩
      have hyb := hzz.out k hlt
      rw [hy] at hce hyb
      clear hy hzz R
      have OF := Lib.hid (of_any y wr hyb.1 hyb.2)
      have q0 := around_lo y 1000000 (by omega)
      obtain ⟨q, hq⟩ : ∃ z_, (around y 1000000) = z_ := ⟨_, rfl⟩
      rw [hq] at OF q0
      have hl := sL_le q q0
      obtain ⟨ll, hll⟩ : ∃ z_, (sL q) = z_ := ⟨_, rfl⟩
      obtain ⟨xk, hxk⟩ : ∃ z_, (sK q) = z_ := ⟨_, rfl⟩
      obtain ⟨pu, hpu⟩ : ∃ z_, (sP q) = z_ := ⟨_, rfl⟩
      rw [hll, hxk, hpu] at OF
      rw [hll] at hl
      clear hq hll hxk hpu hyb q0
      replace hT := Lib.hid hT
      replace hbr := Lib.hid hbr
      replace hH := Lib.hid hH
      go_wp2_with fail
      with_reducible refine (OF.out).mono ?_
      rintro e w2 ⟨rfl, hb2⟩
      have hT2 := hT.out.add (hb2.al (.cells #[I ll, sV xk, .bool pu] 28)) w2.heap.size _ hb2.size (heap_alloc_new _ _)
      clear hT hbr
      replace hT2 := Lib.hid hT2
      replace hb2 := Lib.hid hb2
      go_wp2_with fail
      obtain ⟨y0, hy0⟩ : ∃ z_, (w2.heap.size) = z_ := ⟨_, rfl⟩
      obtain ⟨w3, hw3⟩ : ∃ z_, (w2.alloc (.cells #[I ll, sV xk, .bool pu] 28)) = z_ := ⟨_, rfl⟩
      rw [hy0, hw3] at hT2
      rw [hy0, hw3]
      clear hy0 hw3 hb2
      obtain ⟨t2, ht2⟩ : ∃ z, t + ll = z := ⟨_, rfl⟩
      rw [ht2]
      have hH2 := hH.out.le (b := t2) (by omega)
      have wt : IntKind.i64.wrap ((k : Int) + 1) = ((k + 1 : Nat) : Int) := by rw [IntKind.wrap_i64]; omega
      have hP0 := hH2.put (Int.le_refl _) (by omega) (by omega) xk
      have hLp := putR_len' (h := h) (now := t2) (R := W) (key := xk)
      clear hH
      replace wt := Lib.hid wt
      replace hH2 := Lib.hid hH2
      replace hP0 := Lib.hid hP0
      go_loopw [11] (fun j wr => ∃ (m : Nat) (r : Int), m ≤ 6 ∧ j = I m ∧ r ≤ t2 ∧ Pr w wr p h r W p2 h s W [(y0, .cells #[I ll, sV xk, .bool pu] 28)]) (fun j _ => 6 - (intOf j).toNat)
      case atStart => exact ⟨0, r0, by omega, rfl, by omega, hT2.out⟩
      case round =>
        obtain ⟨m, r, hm6, rfl, hr, hU⟩ := hrel
        clear hT2
        by_cases hm : m < 6
        · have wm : IntKind.i64.wrap (6 * (m : Int)) = 6 * (m : Int) := by rw [IntKind.wrap_i64]; omega
          have wm1 : IntKind.i64.wrap ((m : Int) + 1) = ((m + 1 : Nat) : Int) := by rw [IntKind.wrap_i64]; omega
          have OM := Lib.hid (fun w' => of_any (6 * (m : Int)) w' (by omega) (by omega))
          obtain ⟨ml, hml⟩ : ∃ z_, (sL (around (6 * (m : Int)) 1000000)) = z_ := ⟨_, rfl⟩
          obtain ⟨mk, hmk⟩ : ∃ z_, (sK (around (6 * (m : Int)) 1000000)) = z_ := ⟨_, rfl⟩
          obtain ⟨mp, hmp⟩ : ∃ z_, (sP (around (6 * (m : Int)) 1000000)) = z_ := ⟨_, rfl⟩
          rw [hml, hmk, hmp] at OM
          clear hml hmk hmp
          have FK := field_k ml mk mp
          replace hU := Lib.hid hU
          replace wm1 := Lib.hid wm1
          go_wp2_with fail
          with_reducible refine (OM.out _).mono ?_
          rintro e w4 ⟨rfl, hb4⟩
          have hU4 := hU.out.bl hb4
          clear hU hb4 OM
          have HP := Lib.hid (has_pr hU4 (by omega) k0 (by omega) t2 mk (by omega))
          clear hU4
          go_wp2_with fail
          with_reducible refine (HP.out).mono ?_
          rintro e w5 ⟨rfl, hU5⟩
          clear HP
          have HL := Lib.hid (len_pr hU5 hH2.out (by omega) k0 (by omega) (Int.le_refl _))
          clear hU5
          go_wp2_with fail
          with_reducible refine (HL.out).mono ?_
          rintro e w6 ⟨rfl, hU6⟩
          clear HL
          replace hU6 := Lib.hid hU6
          replace wm1 := wm1.out
          go_wp2_with fail
          go_roundw
          case rel => exact ⟨m + 1, t2, by omega, by go_num, Int.le_refl _, hU6.out⟩
          case measure => simp [intOf] <;> omega
        · obtain rfl : m = 6 := by omega
          have hV := Lib.hid (hU.bl (Bl.rfl' _).dr)
          have cs := fun w' r s W V (x : Pr w w' p h r W p2 h s V [(y0, .cells #[I ll, sV xk, .bool pu] 28)]) => three x.oth
          have h3 := three hU.oth
          obtain ⟨c0, c1, c2⟩ := h3
          clear hU
          cases pu with
          | false =>
            have hU' := Lib.hid hV.out.drop
            clear hV
            replace cs := Lib.hid cs
            go_wp2_with fail
            refine wp_region_held_drew (S := fun w' => w'.cell? ⟨y0, 0, none⟩ = some (I ll) ∧ w'.cell? ⟨y0, 1, none⟩ = some (sV xk) ∧ w'.cell? ⟨y0, 2, none⟩ = some (.bool false)) (by kernel_rfl) ?_ (fun hHeld => ?_)
            · exact ⟨c0, c1, c2⟩
            clear c0 c1 c2
            refine wpAnyH_take (i := 0) (v := ?v0_1) rfl (by kernel_rfl) (by kernel_rfl) (by kernel_rfl) (fun _ _ _ h => h) (Or.inl ⟨by rfl, ?y0_1⟩) hHeld ?r0_1
            case y0_1 => (intro w hSw; (try dsimp only at hSw); go_split_ands; go_simp; try with_reducible rfl)
            try simp only [List.getElem_toArray, List.getElem_cons_succ, List.getElem_cons_zero, Act.put, List.setIfInBounds_toArray, List.set_cons_zero, List.set_cons_succ]
            refine wpAnyH_take (i := 1) (v := ?v1_2) rfl (by kernel_rfl) (by kernel_rfl) (by kernel_rfl) (fun _ _ _ h => h) (Or.inl ⟨by rfl, ?y1_2⟩) hHeld ?r1_2
            case y1_2 => (intro w hSw; (try dsimp only at hSw); go_split_ands; go_simp; try with_reducible rfl)
            try simp only [List.getElem_toArray, List.getElem_cons_succ, List.getElem_cons_zero, Act.put, List.setIfInBounds_toArray, List.set_cons_zero, List.set_cons_succ]
            refine wpAnyH_take (i := 2) (v := ?v2_3) rfl (by kernel_rfl) (by kernel_rfl) (by kernel_rfl) (fun _ _ _ h => h) (Or.inl ⟨by rfl, ?y2_3⟩) hHeld ?r2_3
            case y2_3 => (intro w hSw; (try dsimp only at hSw); go_split_ands; go_simp; try with_reducible rfl)
            try simp only [List.getElem_toArray, List.getElem_cons_succ, List.getElem_cons_zero, Act.put, List.setIfInBounds_toArray, List.set_cons_zero, List.set_cons_succ]
            refine wpAnyH_take (i := 3) (v := undef) rfl (by kernel_rfl) (by kernel_rfl) (by kernel_rfl) (fun _ _ _ h => h) (Or.inr ⟨by rfl, rfl⟩) hHeld ?_
            try simp only [List.getElem_toArray, List.getElem_cons_succ, List.getElem_cons_zero, Act.put, List.setIfInBounds_toArray, List.set_cons_zero, List.set_cons_succ]
            refine wpAnyH_take (i := 4) (v := undef) rfl (by kernel_rfl) (by kernel_rfl) (by kernel_rfl) (fun _ _ _ h => h) (Or.inr ⟨by rfl, rfl⟩) hHeld ?_
            try simp only [List.getElem_toArray, List.getElem_cons_succ, List.getElem_cons_zero, Act.put, List.setIfInBounds_toArray, List.set_cons_zero, List.set_cons_succ]
            refine wpAnyH_take (i := 5) (v := undef) rfl (by kernel_rfl) (by kernel_rfl) (by kernel_rfl) (fun _ _ _ h => h) (Or.inr ⟨by rfl, rfl⟩) hHeld ?_
            try simp only [List.getElem_toArray, List.getElem_cons_succ, List.getElem_cons_zero, Act.put, List.setIfInBounds_toArray, List.set_cons_zero, List.set_cons_succ]
            refine wpAnyH_take (i := 6) (v := undef) rfl (by kernel_rfl) (by kernel_rfl) (by kernel_rfl) (fun _ _ _ h => h) (Or.inr ⟨by rfl, rfl⟩) hHeld ?_
            try simp only [List.getElem_toArray, List.getElem_cons_succ, List.getElem_cons_zero, Act.put, List.setIfInBounds_toArray, List.set_cons_zero, List.set_cons_succ]
            refine wpAnyH_take (i := 7) (v := undef) rfl (by kernel_rfl) (by kernel_rfl) (by kernel_rfl) (fun _ _ _ h => h) (Or.inr ⟨by rfl, rfl⟩) hHeld ?_
            try simp only [List.getElem_toArray, List.getElem_cons_succ, List.getElem_cons_zero, Act.put, List.setIfInBounds_toArray, List.set_cons_zero, List.set_cons_succ]
            refine wpAnyH_take (i := 8) (v := undef) rfl (by kernel_rfl) (by kernel_rfl) (by kernel_rfl) (fun _ _ _ h => h) (Or.inr ⟨by rfl, rfl⟩) hHeld ?_
            try simp only [List.getElem_toArray, List.getElem_cons_succ, List.getElem_cons_zero, Act.put, List.setIfInBounds_toArray, List.set_cons_zero, List.set_cons_succ]
            refine wpAnyH_take (i := 9) (v := undef) rfl (by kernel_rfl) (by kernel_rfl) (by kernel_rfl) (fun _ _ _ h => h) (Or.inr ⟨by rfl, rfl⟩) hHeld ?_
            try simp only [List.getElem_toArray, List.getElem_cons_succ, List.getElem_cons_zero, Act.put, List.setIfInBounds_toArray, List.set_cons_zero, List.set_cons_succ]
            refine wpAnyH_take (i := 10) (v := undef) rfl (by kernel_rfl) (by kernel_rfl) (by kernel_rfl) (fun _ _ _ h => h) (Or.inr ⟨by rfl, rfl⟩) hHeld ?_
            try simp only [List.getElem_toArray, List.getElem_cons_succ, List.getElem_cons_zero, Act.put, List.setIfInBounds_toArray, List.set_cons_zero, List.set_cons_succ]
            refine wpAnyH_take (i := 11) (v := undef) rfl (by kernel_rfl) (by kernel_rfl) (by kernel_rfl) (fun _ _ _ h => h) (Or.inr ⟨by rfl, rfl⟩) hHeld ?_
            try simp only [List.getElem_toArray, List.getElem_cons_succ, List.getElem_cons_zero, Act.put, List.setIfInBounds_toArray, List.set_cons_zero, List.set_cons_succ]
            refine wpAnyH_take (i := 12) (v := undef) rfl (by kernel_rfl) (by kernel_rfl) (by kernel_rfl) (fun _ _ _ h => h) (Or.inr ⟨by rfl, rfl⟩) hHeld ?_
            try simp only [List.getElem_toArray, List.getElem_cons_succ, List.getElem_cons_zero, Act.put, List.setIfInBounds_toArray, List.set_cons_zero, List.set_cons_succ]
            refine wpAnyH_take (i := 13) (v := undef) rfl (by kernel_rfl) (by kernel_rfl) (by kernel_rfl) (fun _ _ _ h => h) (Or.inr ⟨by rfl, rfl⟩) hHeld ?_
            try simp only [List.getElem_toArray, List.getElem_cons_succ, List.getElem_cons_zero, Act.put, List.setIfInBounds_toArray, List.set_cons_zero, List.set_cons_succ]
            refine wpAnyH_take (i := 14) (v := ?v14_4) rfl (by kernel_rfl) (by kernel_rfl) (by kernel_rfl) (fun _ _ _ h => h) (Or.inl ⟨by rfl, ?y14_4⟩) hHeld ?r14_4
            case y14_4 => (intro w hSw; (try dsimp only at hSw); go_split_ands; go_simp; try with_reducible rfl)
            try simp only [List.getElem_toArray, List.getElem_cons_succ, List.getElem_cons_zero, Act.put, List.setIfInBounds_toArray, List.set_cons_zero, List.set_cons_succ]
            refine wpAnyH_done (by kernel_rfl) ?_ _
            replace wt := wt.out
            go_wp2_with fail
            go_roundw
            case rel => exact ⟨k + 1, W, t2, r, s, by omega, by omega, by go_num, rfl, by omega, by omega, by omega, hr, by omega, hH2.out, hU'.out⟩
            case measure => simp [intOf] <;> omega
          | true =>
            have PP := Lib.hid (put_pr hV.out (by omega) k0 (by omega) t2 xk (by omega) (by omega) (by omega))
            clear hV
            replace cs := Lib.hid cs
            go_wp2_with fail
            refine wp_region_held_drew (S := fun w' => w'.cell? ⟨y0, 0, none⟩ = some (I ll) ∧ w'.cell? ⟨y0, 1, none⟩ = some (sV xk) ∧ w'.cell? ⟨y0, 2, none⟩ = some (.bool true)) (by kernel_rfl) ?_ (fun hHeld => ?_)
            · exact ⟨c0, c1, c2⟩
            clear c0 c1 c2
            refine wpAnyH_take (i := 0) (v := ?v0_5) rfl (by kernel_rfl) (by kernel_rfl) (by kernel_rfl) (fun _ _ _ h => h) (Or.inl ⟨by rfl, ?y0_5⟩) hHeld ?r0_5
            case y0_5 => (intro w hSw; (try dsimp only at hSw); go_split_ands; go_simp; try with_reducible rfl)
            try simp only [List.getElem_toArray, List.getElem_cons_succ, List.getElem_cons_zero, Act.put, List.setIfInBounds_toArray, List.set_cons_zero, List.set_cons_succ]
            refine wpAnyH_take (i := 1) (v := ?v1_6) rfl (by kernel_rfl) (by kernel_rfl) (by kernel_rfl) (fun _ _ _ h => h) (Or.inl ⟨by rfl, ?y1_6⟩) hHeld ?r1_6
            case y1_6 => (intro w hSw; (try dsimp only at hSw); go_split_ands; go_simp; try with_reducible rfl)
            try simp only [List.getElem_toArray, List.getElem_cons_succ, List.getElem_cons_zero, Act.put, List.setIfInBounds_toArray, List.set_cons_zero, List.set_cons_succ]
            refine wpAnyH_take (i := 2) (v := ?v2_7) rfl (by kernel_rfl) (by kernel_rfl) (by kernel_rfl) (fun _ _ _ h => h) (Or.inl ⟨by rfl, ?y2_7⟩) hHeld ?r2_7
            case y2_7 => (intro w hSw; (try dsimp only at hSw); go_split_ands; go_simp; try with_reducible rfl)
            try simp only [List.getElem_toArray, List.getElem_cons_succ, List.getElem_cons_zero, Act.put, List.setIfInBounds_toArray, List.set_cons_zero, List.set_cons_succ]
            refine wpAnyH_take (i := 3) (v := ?v3_8) rfl (by kernel_rfl) (by kernel_rfl) (by kernel_rfl) (fun _ _ _ h => h) (Or.inl ⟨by rfl, ?y3_8⟩) hHeld ?r3_8
            case y3_8 => (intro w hSw; (try dsimp only at hSw); go_split_ands; go_simp; try with_reducible rfl)
            try simp only [List.getElem_toArray, List.getElem_cons_succ, List.getElem_cons_zero, Act.put, List.setIfInBounds_toArray, List.set_cons_zero, List.set_cons_succ]
            refine wpAnyH_take (i := 4) (v := ?v4_9) rfl (by kernel_rfl) (by kernel_rfl) (by kernel_rfl) (fun _ _ _ h => h) (Or.inl ⟨by rfl, ?y4_9⟩) hHeld ?r4_9
            case y4_9 => (intro w hSw; (try dsimp only at hSw); go_split_ands; go_simp; try with_reducible rfl)
            try simp only [List.getElem_toArray, List.getElem_cons_succ, List.getElem_cons_zero, Act.put, List.setIfInBounds_toArray, List.set_cons_zero, List.set_cons_succ]
            refine wpAnyH_take (i := 5) (v := ?v5_10) rfl (by kernel_rfl) (by kernel_rfl) (by kernel_rfl) (fun _ _ _ h => h) (Or.inl ⟨by rfl, ?y5_10⟩) hHeld ?r5_10
            case y5_10 => (intro w hSw; (try dsimp only at hSw); go_split_ands; go_simp; try with_reducible rfl)
            try simp only [List.getElem_toArray, List.getElem_cons_succ, List.getElem_cons_zero, Act.put, List.setIfInBounds_toArray, List.set_cons_zero, List.set_cons_succ]
            refine wpAnyH_take (i := 6) (v := ?v6_11) rfl (by kernel_rfl) (by kernel_rfl) (by kernel_rfl) (fun _ _ _ h => h) (Or.inl ⟨by rfl, ?y6_11⟩) hHeld ?r6_11
            case y6_11 => (intro w hSw; (try dsimp only at hSw); go_split_ands; go_simp; try with_reducible rfl)
            try simp only [List.getElem_toArray, List.getElem_cons_succ, List.getElem_cons_zero, Act.put, List.setIfInBounds_toArray, List.set_cons_zero, List.set_cons_succ]
            refine wpAnyH_take (i := 8) (v := ?v8_12) rfl (by kernel_rfl) (by kernel_rfl) (by kernel_rfl) (fun _ _ _ h => h) (Or.inl ⟨by rfl, ?y8_12⟩) hHeld ?r8_12
            case y8_12 => (intro w hSw; (try dsimp only at hSw); go_split_ands; go_simp; try with_reducible rfl)
            try simp only [List.getElem_toArray, List.getElem_cons_succ, List.getElem_cons_zero, Act.put, List.setIfInBounds_toArray, List.set_cons_zero, List.set_cons_succ]
            refine wpAnyH_take (i := 9) (v := ?v9_13) rfl (by kernel_rfl) (by kernel_rfl) (by kernel_rfl) (fun _ _ _ h => h) (Or.inl ⟨by rfl, ?y9_13⟩) hHeld ?r9_13
            case y9_13 => (intro w hSw; (try dsimp only at hSw); go_split_ands; go_simp; try with_reducible rfl)
            try simp only [List.getElem_toArray, List.getElem_cons_succ, List.getElem_cons_zero, Act.put, List.setIfInBounds_toArray, List.set_cons_zero, List.set_cons_succ]
            refine wpAnyH_take (i := 10) (v := ?v10_14) rfl (by kernel_rfl) (by kernel_rfl) (by kernel_rfl) (fun _ _ _ h => h) (Or.inl ⟨by rfl, ?y10_14⟩) hHeld ?r10_14
            case y10_14 => (intro w hSw; (try dsimp only at hSw); go_split_ands; go_simp; try with_reducible rfl)
            try simp only [List.getElem_toArray, List.getElem_cons_succ, List.getElem_cons_zero, Act.put, List.setIfInBounds_toArray, List.set_cons_zero, List.set_cons_succ]
            refine wpAnyH_take (i := 11) (v := ?v11_15) rfl (by kernel_rfl) (by kernel_rfl) (by kernel_rfl) (fun _ _ _ h => h) (Or.inl ⟨by rfl, ?y11_15⟩) hHeld ?r11_15
            case y11_15 => (intro w hSw; (try dsimp only at hSw); go_split_ands; go_simp; try with_reducible rfl)
            try simp only [List.getElem_toArray, List.getElem_cons_succ, List.getElem_cons_zero, Act.put, List.setIfInBounds_toArray, List.set_cons_zero, List.set_cons_succ]
            refine wpAnyH_ready (rs := [7]) (by kernel_rfl) (by simp) ?_
            refine AllReadyH.cons rfl (fun K hK => ?_) AllReadyH.nil
            have hHeld' := hHeld
            try dsimp only at hHeld'
            go_split_ands
            go_simp
            refine PP.out.mono ?_
            rintro e w5 ⟨rfl, hT5⟩
            refine hK.out _ _ ?_ (fun hHeld => ?_)
            · exact cs.out _ _ _ _ _ hT5
            clear hK K
            try simp only [List.getElem_toArray, List.getElem_cons_succ, List.getElem_cons_zero, Act.put, List.setIfInBounds_toArray, List.set_cons_zero, List.set_cons_succ]
            refine wpAnyH_ready (rs := [12]) (by kernel_rfl) (by simp) ?_
            refine AllReadyH.cons rfl (fun K hK => ?_) AllReadyH.nil
            have hHeld' := hHeld
            try dsimp only at hHeld'
            go_split_ands
            go_simp
            refine (put_pr2 hT5 (by omega) k0 (by omega) t2 xk (by omega) (by omega) (by omega)).mono ?_
            rintro e w6 ⟨rfl, hT6⟩
            refine hK.out _ _ ?_ (fun hHeld => ?_)
            · exact cs.out _ _ _ _ _ hT6
            clear hK K
            try simp only [List.getElem_toArray, List.getElem_cons_succ, List.getElem_cons_zero, Act.put, List.setIfInBounds_toArray, List.set_cons_zero, List.set_cons_succ]
            have hT7 := hT6.drop
            obtain ⟨V, hV⟩ : ∃ z_, (putR h t2 W xk) = z_ := ⟨_, rfl⟩
            rw [hV] at hT7 hLp hP0
            obtain ⟨B, hB⟩ : ∃ z_, (remB h t2 W xk) = z_ := ⟨_, rfl⟩
            have hbb : ((!B) != (!B)) = false := by simp
            rw [hB]
            clear hB hV PP cs hT5 hT6
            replace hT7 := Lib.hid hT7
            refine wpAnyH_take (i := 13) (v := ?v13_16) rfl (by kernel_rfl) (by kernel_rfl) (by kernel_rfl) (fun _ _ _ h => h) (Or.inl ⟨by rfl, ?y13_16⟩) hHeld ?r13_16
            case y13_16 => (intro w hSw; (try dsimp only at hSw); go_split_ands; go_simp; try with_reducible rfl)
            try simp only [List.getElem_toArray, List.getElem_cons_succ, List.getElem_cons_zero, Act.put, List.setIfInBounds_toArray, List.set_cons_zero, List.set_cons_succ]
            refine wpAnyH_take (i := 14) (v := ?v14_17) rfl (by kernel_rfl) (by kernel_rfl) (by kernel_rfl) (fun _ _ _ h => h) (Or.inl ⟨by rfl, ?y14_17⟩) hHeld ?r14_17
            case y14_17 => (intro w hSw; (try dsimp only at hSw); go_split_ands; go_simp; try with_reducible rfl)
            try simp only [List.getElem_toArray, List.getElem_cons_succ, List.getElem_cons_zero, Act.put, List.setIfInBounds_toArray, List.set_cons_zero, List.set_cons_succ]
            refine wpAnyH_done (by kernel_rfl) ?_ _
            replace wt := wt.out
            go_wp2_with fail
            go_roundw
            case rel => exact ⟨k + 1, V, t2, t2, t2, by omega, by omega, by go_num, rfl, by omega, by omega, by omega, Int.le_refl _, Int.le_refl _, hP0.out, hT7.out⟩
            case measure => simp [intOf] <;> omega
    · have hb := Lib.hid hbr
      clear hbr R hzz
      replace hT := Lib.hid hT
      replace hH := Lib.hid hH
      by_cases h1 : k < N
      · obtain rfl : k = 40 := by omega
        go_wp2_with fail
        refine (len_pr hT.out hH.out (by omega) k0 (by omega) (by omega)).mono ?_
        rintro e w5 ⟨rfl, hT5⟩
        clear hT
        replace hT5 := Lib.hid hT5
        go_wp2_with fail
        refine (len_pr2 hT5.out hH.out (by omega) k0 (by omega) (by omega)).mono ?_
        rintro e w6 ⟨rfl, hT6⟩
        clear hT5
        have hZ := none_left (h := h) (t := t + h) hH.out.2 (Int.le_refl _)
        have hE := Lib.hid (len_pr hT6 (hH.out.le (b := t + h) (by omega)) (by omega) k0 (by omega) (by omega))
        rw [hZ] at hE
        obtain ⟨m, hm⟩ : ∃ z_, (W.countP (fun x => decide (t < x.a + h))) = z_ := ⟨_, rfl⟩
        rw [hm]
        have wth : IntKind.i64.wrap (t + h) = t + h := by rw [IntKind.wrap_i64]; omega
        have hmm : ((m : Int) == (m : Int)) = true := by simp
        clear hm hT6
        go_wp2_with fail
        with_reducible refine (hE.out).mono ?_
        rintro e w7 ⟨rfl, hT7⟩
        have hb7 := hT7.blk
        clear hT7 hE
        replace hb7 := Lib.hid hb7
        go_wp2_with fail
        with_reducible refine ((LV.out _)).mono ?_
        rintro e w11 ⟨rfl, hb11⟩
        go_wp2_with fail
        go_ret
        exact ⟨rfl, hb7.out.tr hb11⟩
      · obtain rfl : k = N := by omega
        go_wp2_with fail
        refine (len_pr hT.out hH.out (by omega) k0 (by omega) (by omega)).mono ?_
        rintro e w5 ⟨rfl, hT5⟩
        clear hT
        replace hT5 := Lib.hid hT5
        go_wp2_with fail
        refine (len_pr2 hT5.out hH.out (by omega) k0 (by omega) (by omega)).mono ?_
        rintro e w6 ⟨rfl, hT6⟩
        clear hT5
        have hZ := none_left (h := h) (t := t + h) hH.out.2 (Int.le_refl _)
        have hE := Lib.hid (len_pr hT6 (hH.out.le (b := t + h) (by omega)) (by omega) k0 (by omega) (by omega))
        rw [hZ] at hE
        obtain ⟨m, hm⟩ : ∃ z_, (W.countP (fun x => decide (t < x.a + h))) = z_ := ⟨_, rfl⟩
        rw [hm]
        have wth : IntKind.i64.wrap (t + h) = t + h := by rw [IntKind.wrap_i64]; omega
        have hmm : ((m : Int) == (m : Int)) = true := by simp
        clear hm hT6
        go_wp2_with fail
        with_reducible refine (hE.out).mono ?_
        rintro e w7 ⟨rfl, hT7⟩
        have hb7 := hT7.blk
        clear hT7 hE
        replace hb7 := Lib.hid hb7
        go_wp2_with fail
        with_reducible refine ((LV.out _)).mono ?_
        rintro e w11 ⟨rfl, hb11⟩
        go_wp2_with fail
        go_ret
        exact ⟨rfl, hb7.out.tr hb11⟩
end Go.Proofs.Ytfpapfnpppggeaa.dedupAsks
