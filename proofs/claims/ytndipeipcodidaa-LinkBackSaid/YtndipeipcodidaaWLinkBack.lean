/-
  LinkBack is true for every input: which way a message goes between two nodes is nothing. No condition.
-/
import Derived.Test.YtndipeipcodidaaLinI
import Derived.Test.YtndipeipcodidaaSame
import Derived.Deep.RegionHeldLaw
namespace Go.Proofs.Ytndipeipcodidaa.linkBack
open Go.ChangeShapes Go.WideShapes Go.ChangeAt Go.RowKit
open Go.Proofs.Ytndipeipcodidaa.link
set_option linter.unusedVariables false
set_option linter.unusedSimpArgs false

theorem touch_back (x : Flt) (u v : Int) : touch x v u = touch x u v := by unfold touch; exact Bool.or_comm _ _
theorem sendTo_back (A : List Flt) (now u v : Int) (s : SS) : ∀ k, sendTo A now v u s k = sendTo A now u v s k := by
  intro k
  induction k with
  | zero => rfl
  | succ k ih =>
    show sendStep now v u (sendTo A now v u s k) k _ = sendStep now u v (sendTo A now u v s k) k _
    rw [ih]
    unfold sendStep seesB
    rw [touch_back]
theorem sq_back (A : List Flt) (now u v hop : Int) (cnt : List Int) : sq A now v u hop cnt = sq A now u v hop cnt := sendTo_back A now u v _ _
theorem three {w : World} {y : Nat} {a b c : Int} {t : TypeId} (h : w.heap[y]? = some (.cells #[I a, I b, I c] t (0, 0))) : w.cell? ⟨y, 0, none⟩ = some (I a) ∧ w.cell? ⟨y, 1, none⟩ = some (I b) ∧ w.cell? ⟨y, 2, none⟩ = some (I c) := by
  refine ⟨?_, ?_, ?_⟩ <;> (rw [cell_at h]; rfl)
theorem three_set {w : World} {y : Nat} {T : TypeId} {a b c : Int} (h : w.heap[y]? = some (.cells #[I a, I b, I c] T (0, 0))) (a' b' c' : Int) :
    (((w.setCell ⟨y, 0, none⟩ (I a')).setCell ⟨y, 1, none⟩ (I b')).setCell ⟨y, 2, none⟩ (I c')).heap[y]? = some (.cells #[I a', I b', I c'] T (0, 0)) ∧ w.grownBy (((w.setCell ⟨y, 0, none⟩ (I a')).setCell ⟨y, 1, none⟩ (I b')).setCell ⟨y, 2, none⟩ (I c')) (some y) := by
  have s5 := set_at 2 (I c') (set_at 1 (I b') (set_at 0 (I a') h))
  refine ⟨by rw [s5]; simp, gby_tr (gby_tr (gby_set w y 0 (I a')) (gby_set _ y 1 (I b'))) (gby_set _ y 2 (I c'))⟩

theorem LS_gby2 {w w' : World} {p q : Nat} {hop hop' : Int} {A A' : List Flt} {cnt cnt' : List Int} (h : LS w q hop A cnt) (k : LS w p hop' A' cnt') (hg : w.grownBy w' (some p)) (hne : q ≠ p) : LS w' q hop A cnt := by
  obtain ⟨g, a, cap, h1, h2, h3⟩ := h
  obtain ⟨g', a', cap', k1, -, -⟩ := k
  by_cases h0 : 0 < A.length
  · have hgp : g ≠ p := by
      rintro rfl
      have e1 := (h2.c 0 h0).2.2.1
      have e2 := k1.c.2
      simp only [Nat.zero_mul, Nat.zero_add] at e1
      rw [e1] at e2
      cases e2
    exact ⟨g, a, cap, h1.gby hg hne, h2.gby hg hgp, h3⟩
  · exact ⟨q + 1, a, cap, h1.gby hg hne, fun h => absurd h h0, by omega⟩

set_option maxHeartbeats 8000000 in
set_option maxRecDepth 20000 in
theorem walk {w : World} (v0 : Value) (z0 : List Int) (hv0 : IntsAt w v0 z0) (hz0 : i64ok z0) (hm0 : z0.length ≤ maxLen) (v1 : Value) (z1 : List Int) (hv1 : IntsAt w v1 z1) (hz1 : i64ok z1) (hm1 : z1.length ≤ maxLen) (v2 : Value) (z2 : List Bool) (hv2 : Rd w v2 z2.length z2.length (fun i => .bool (z2.getD i false))) (hm2 : z2.length ≤ maxLen) :
    Calls Try.prog 6 #[v0, v1, v2] w fun e w' => e = .returned (.bool true) ∧ Bl w w' := by
  have FS := Lib.hid (faults_any z0 v0 w hv0 hz0 hm0)
  have MS := Lib.hid (fun w (hv : IntsAt w v1 z1) => msgs_any z1 v1 w hv hz1 hm1)
  have hv1' := Lib.hid hv1
  have LV := Lib.hid lives_any
  obtain ⟨a2, c2, rfl, R2⟩ := rd_any hv2
  obtain ⟨L2, hL2⟩ : ∃ z_, (z2.length) = z_ := ⟨_, rfl⟩
  rw [hL2] at R2 hm2 ⊢
  unfold maxLen at hm2
  replace R2 := Lib.hid R2
  clear hv0 hv1 hz0 hz1 hm0 hm1 hL2 hv2
  go_enter Try.func6, Try.ntmps6
  go_wp2_with fail
  with_reducible refine (FS.out).mono ?_
  rintro e w1 ⟨aF, cF, gF, F, rfl, hcF, hokF, hgF, hF, hb1⟩
  obtain ⟨hFl, hFF⟩ := hokF
  replace hFF := Lib.hid hFF
  replace hb1 := Lib.hid hb1
  clear FS
  go_wp2_with fail
  with_reducible refine (new_ls w1 1 gF aF cF F hF (by omega) hcF).mono ?_
  rintro e w2 ⟨p, rfl, hp, hL, hb2⟩
  have hwp : w.heap.size ≤ p := by have := hb1.out.size; omega
  replace hF := hF.bl hb2
  replace hb1 := Lib.hid (hb1.out.tr hb2)
  clear hb2 hp hgF
  replace hL := Lib.hid hL
  go_wp2_with fail
  with_reducible refine (new_ls w2 1 gF aF cF F hF (by omega) hcF).mono ?_
  rintro e w3 ⟨q, rfl, hq, hK, hb3⟩
  have hpq : p ≠ q := by have := hL.out.lt; omega
  have hwq : w.heap.size ≤ q := by have := hb1.out.size; omega
  replace hb1 := Lib.hid (hb1.out.tr hb3)
  replace hL := Lib.hid (hL.out.bl hb3)
  replace hK := Lib.hid hK
  clear hb3 hq hF
  go_wp2_with fail
  with_reducible refine (MS.out w3 (hv1'.out.below hb1.out)).mono ?_
  rintro e w4 ⟨aM, cM, gM, M, rfl, hokM, hgM, hM, hb4⟩
  obtain ⟨hMl, hMM⟩ := hokM
  have hgp : gM ≠ p := by have := hL.out.lt; omega
  have hgq : gM ≠ q := by have := hK.out.lt; omega
  replace hb1 := Lib.hid (hb1.out.tr hb4)
  replace hL := Lib.hid (hL.out.bl hb4)
  replace hK := Lib.hid (hK.out.bl hb4)
  replace hM := Lib.hid hM
  replace hMM := Lib.hid hMM
  clear hb4 MS hv1' hgM
  go_wp2_with fail
  obtain ⟨N, hN⟩ : ∃ z_, (M.length) = z_ := ⟨_, rfl⟩
  rw [hN] at hMl ⊢
  replace hN := Lib.hid hN
  go_loopw [11] (fun i wr => ∃ (j : Nat) (cnt : List Int), j ≤ N ∧ i = I j ∧ okC j cnt ∧ LS wr p 1 F cnt ∧ LS wr q 1 F cnt ∧ MRow wr gM aM M ∧ Bl w wr) (fun i _ => N - (intOf i).toNat)
  case atStart => exact ⟨0, _, by omega, rfl, okC0 0 (by decide), hL.out, hK.out, hM.out, hb1.out⟩
  case round =>
    obtain ⟨j, cnt, hjN, rfl, hok, hLS, hKS, hMR, hbr⟩ := hrel
    clear hL hK hM hb1
    by_cases hlt : j < N
    · obtain ⟨rfl, q0, q1, q2⟩ := hMR.c j (by rw [hN.out]; exact hlt)
      have hxm : okM (M.getD j ms0) := hMM.out _ (getD_mem M j ms0 (by rw [hN.out]; exact hlt))
      obtain ⟨x, hx⟩ : ∃ z_, (M.getD j ms0) = z_ := ⟨_, rfl⟩
      rw [hx] at q0 q1 q2 hxm
      obtain ⟨t, u, v⟩ := x
      obtain ⟨t0, t1⟩ := hxm
      simp only at q0 q1 q2 t0 t1
      have hA1 := heap_alloc_new wr (.cells #[I t, I u, I v] 33)
      have hs1 : (wr.alloc (.cells #[I t, I u, I v] 33)).heap.size = wr.heap.size + 1 := by simp
      have hal := (Bl.rfl' wr).al (.cells #[I t, I u, I v] 33)
      obtain ⟨wa, hwa⟩ : ∃ z_, (wr.alloc (.cells #[I t, I u, I v] 33)) = z_ := ⟨_, rfl⟩
      rw [hwa] at hA1 hs1 hal
      have hA2 := var_bl hA1 ((Bl.rfl' wa).al (.cells #[I t, I u, I v] 33))
      have hB2 := heap_alloc_new wa (.cells #[I t, I u, I v] 33)
      have hal2 := hal.al (.cells #[I t, I u, I v] 33)
      obtain ⟨y, hy⟩ : ∃ z_, (wr.heap.size) = z_ := ⟨_, rfl⟩
      have hyp : y ≠ p := by have := hLS.lt; omega
      have hyq : y ≠ q := by have := hKS.lt; omega
      rw [hy] at hs1 hA1 hA2
      rw [hs1] at hB2
      have hzp : y + 1 ≠ p := by have := hLS.lt; omega
      have hzq : y + 1 ≠ q := by have := hKS.lt; omega
      obtain ⟨q0', q1', q2'⟩ := three hA1
      have hbw : w.heap.size ≤ y := by have := hbr.size; omega
      have hLw := hLS.bl hal2
      have hKw := hKS.bl hal2
      have hMw := hMR.bl hal2
      have hbw2 := hbr.tr hal2
      obtain ⟨wb, hwb⟩ : ∃ z_, (wa.alloc (.cells #[I t, I u, I v] 33)) = z_ := ⟨_, rfl⟩
      rw [hwb] at hal2 hA2 hB2 hLw hKw hMw hbw2
      clear hal hA1 hx

      replace hLw := Lib.hid hLw
      replace hKw := Lib.hid hKw
      replace hMw := Lib.hid hMw
      replace hbw2 := Lib.hid hbw2
      replace hA2 := Lib.hid hA2
      replace hB2 := Lib.hid hB2
      replace hal2 := Lib.hid hal2
      replace hLS := Lib.hid hLS
      replace hKS := Lib.hid hKS
      replace hMR := Lib.hid hMR
      replace hbr := Lib.hid hbr
      by_cases hlt2 : j < L2
      · obtain ⟨b2, o2, rfl, r2⟩ := R2.out wb hbw2.out j hlt2
        obtain ⟨bk, hbk⟩ : ∃ z_, (z2.getD j false) = z_ := ⟨_, rfl⟩
        rw [hbk] at r2
        cases bk with
        | true =>
          obtain ⟨f0, f1, f2⟩ := three hA2.out
          obtain ⟨g0, g1, g2⟩ := three hB2.out
          have gf := free_at hB2.out
          obtain ⟨hBc, hg5⟩ := three_set hB2.out t v u
          have hcw := hal2.out.gp hg5 (by omega)
          have hL7 := hLS.out.bl hcw
          have hK7 := hKS.out.bl hcw
          have hM7 := hMR.out.bl hcw
          have hb7 := hbr.out.tr hcw
          have hA7 := var_gby hA2.out hg5 (by omega)
          clear hLw hKw hMw hbw2 hcw
          replace hBc := Lib.hid hBc
          replace hg5 := Lib.hid hg5
          replace hL7 := Lib.hid hL7
          replace hK7 := Lib.hid hK7
          replace hM7 := Lib.hid hM7
          replace hb7 := Lib.hid hb7
          replace hA7 := Lib.hid hA7
          go_upto_region 12 with fail
          replace hBc := hBc.out
          replace hg5 := hg5.out
          replace hL7 := hL7.out
          replace hK7 := hK7.out
          replace hM7 := hM7.out
          replace hb7 := hb7.out
          replace hA7 := hA7.out
          have hLw := hL7; have hKw := hK7; have hMw := hM7; have hbw2 := hb7
          replace hA2 := hA7
          clear hL7 hK7 hM7 hb7 hA7 f0 f1 f2 g0 g1 g2 gf hB2
          obtain ⟨wc, hwc⟩ : ∃ z_, (((wb.setCell ⟨y + 1, 0, none⟩ (I t)).setCell ⟨y + 1, 1, none⟩ (I v)).setCell ⟨y + 1, 2, none⟩ (I u)) = z_ := ⟨_, rfl⟩
          rw [hwc] at hBc hg5 hLw hKw hMw hbw2 hA2
          have hwc' : ((wb.setCell ⟨y + 1, 0, none⟩ (Value.int IntKind.i64 t)).setCell ⟨y + 1, 1, none⟩ (Value.int IntKind.i64 v)).setCell ⟨y + 1, 2, none⟩ (Value.int IntKind.i64 u) = wc := hwc
          rw [hwc']
          clear hwc hwc' hg5
          have SA := send_ls wc.drew p 1 F cnt t u v j (hLw.bl (Bl.rfl' wc).dr) (by omega) (fun x hx => (hFF.out x hx).f) hok (by omega) t0 (by omega) (by omega) (by omega)
          have SB := fun w' (h : LS w' q 1 F cnt) => send_ls w' q 1 F cnt t v u j h (by omega) (fun x hx => (hFF.out x hx).f) hok (by omega) t0 (by omega) (by omega) (by omega)
          have hK := sq_ok (A := F) (now := t) (u := u) (v := v) (hop := 1) hok
          have hsh := sent_shape (sq F t u v 1 cnt)
          rw [sq_back F t u v 1 cnt] at SB
          obtain ⟨s, hs⟩ : ∃ z_, (sq F t u v 1 cnt) = z_ := ⟨_, rfl⟩
          rw [hs] at SA SB hK hsh
          have hsl : (sent s).length ≤ maxLen := by unfold maxLen; rcases hsh with h | h | h <;> (rw [h]; simp)
          have hLd := hLw.bl (Bl.rfl' wc).dr
          have hKd := hKw.bl (Bl.rfl' wc).dr
          have hMd := hMw.bl (Bl.rfl' wc).dr
          have hAd := var_bl hA2 (Bl.rfl' wc).dr
          have hBd := var_bl hBc (Bl.rfl' wc).dr
          have hbd := hbw2.dr
          obtain ⟨c', hc'⟩ : ∃ z_, (s.cnt) = z_ := ⟨_, rfl⟩
          rw [hc'] at SA SB hK
          clear hs hsh hok hLw hKw hMw hbw2 hc'
          replace SA := Lib.hid SA
          replace SB := Lib.hid SB
          replace hK := Lib.hid hK
          replace hLd := Lib.hid hLd
          replace hKd := Lib.hid hKd
          replace hMd := Lib.hid hMd
          replace hAd := Lib.hid hAd
          replace hBd := Lib.hid hBd
          replace hbd := Lib.hid hbd
          obtain ⟨f0, f1, f2⟩ := three hA2
          clear hBc hA2
          go_upto_region 12 with fail
          clear f0 f1 f2
          refine wp_region_held_drew (S := fun w' => w'.cell? ⟨y, 0, none⟩ = some (I t) ∧ w'.cell? ⟨y, 1, none⟩ = some (I u) ∧ w'.cell? ⟨y, 2, none⟩ = some (I v) ∧ w'.cell? ⟨y + 1, 0, none⟩ = some (I t) ∧ w'.cell? ⟨y + 1, 1, none⟩ = some (I v) ∧ w'.cell? ⟨y + 1, 2, none⟩ = some (I u)) (by kernel_rfl) ?_ (fun hHeld => ?_)
          · exact ⟨(three hAd.out).1, (three hAd.out).2.1, (three hAd.out).2.2, three hBd.out⟩
          refine wpAnyH_take (i := 0) (v := ?v0_1) rfl (by kernel_rfl) (by kernel_rfl) (by kernel_rfl) (fun _ _ _ h => h) (Or.inl ⟨by rfl, ?y0_1⟩) hHeld ?r0_1
          case y0_1 => (intro w hSw; (try dsimp only at hSw); go_split_ands; go_simp; try with_reducible rfl)
          try simp only [List.getElem_toArray, List.getElem_cons_succ, List.getElem_cons_zero, Act.put, List.setIfInBounds_toArray, List.set_cons_zero, List.set_cons_succ]
          refine wpAnyH_take (i := 1) (v := ?v1_2) rfl (by kernel_rfl) (by kernel_rfl) (by kernel_rfl) (fun _ _ _ h => h) (Or.inl ⟨by rfl, ?y1_2⟩) hHeld ?r1_2
          case y1_2 => (intro w hSw; (try dsimp only at hSw); go_split_ands; go_simp; try with_reducible rfl)
          try simp only [List.getElem_toArray, List.getElem_cons_succ, List.getElem_cons_zero, Act.put, List.setIfInBounds_toArray, List.set_cons_zero, List.set_cons_succ]
          refine wpAnyH_take (i := 2) (v := ?v2_3) rfl (by kernel_rfl) (by kernel_rfl) (by kernel_rfl) (fun _ _ _ h => h) (Or.inl ⟨by rfl, ?y2_3⟩) hHeld ?r2_3
          case y2_3 => (intro w hSw; (try dsimp only at hSw); go_split_ands; go_simp; try with_reducible rfl)
          try simp only [List.getElem_toArray, List.getElem_cons_succ, List.getElem_cons_zero, Act.put, List.setIfInBounds_toArray, List.set_cons_zero, List.set_cons_succ]
          refine wpAnyH_take (i := 3) (v := ?v3_4) rfl (by kernel_rfl) (by kernel_rfl) (by kernel_rfl) (fun _ _ _ h => h) (Or.inl ⟨by rfl, ?y3_4⟩) hHeld ?r3_4
          case y3_4 => (intro w hSw; (try dsimp only at hSw); go_split_ands; go_simp; try with_reducible rfl)
          try simp only [List.getElem_toArray, List.getElem_cons_succ, List.getElem_cons_zero, Act.put, List.setIfInBounds_toArray, List.set_cons_zero, List.set_cons_succ]
          refine wpAnyH_take (i := 4) (v := ?v4_5) rfl (by kernel_rfl) (by kernel_rfl) (by kernel_rfl) (fun _ _ _ h => h) (Or.inl ⟨by rfl, ?y4_5⟩) hHeld ?r4_5
          case y4_5 => (intro w hSw; (try dsimp only at hSw); go_split_ands; go_simp; try with_reducible rfl)
          try simp only [List.getElem_toArray, List.getElem_cons_succ, List.getElem_cons_zero, Act.put, List.setIfInBounds_toArray, List.set_cons_zero, List.set_cons_succ]
          refine wpAnyH_take (i := 5) (v := ?v5_6) rfl (by kernel_rfl) (by kernel_rfl) (by kernel_rfl) (fun _ _ _ h => h) (Or.inl ⟨by rfl, ?y5_6⟩) hHeld ?r5_6
          case y5_6 => (intro w hSw; (try dsimp only at hSw); go_split_ands; go_simp; try with_reducible rfl)
          try simp only [List.getElem_toArray, List.getElem_cons_succ, List.getElem_cons_zero, Act.put, List.setIfInBounds_toArray, List.set_cons_zero, List.set_cons_succ]
          refine wpAnyH_take (i := 6) (v := ?v6_7) rfl (by kernel_rfl) (by kernel_rfl) (by kernel_rfl) (fun _ _ _ h => h) (Or.inl ⟨by rfl, ?y6_7⟩) hHeld ?r6_7
          case y6_7 => (intro w hSw; (try dsimp only at hSw); go_split_ands; go_simp; try with_reducible rfl)
          try simp only [List.getElem_toArray, List.getElem_cons_succ, List.getElem_cons_zero, Act.put, List.setIfInBounds_toArray, List.set_cons_zero, List.set_cons_succ]
          refine wpAnyH_take (i := 8) (v := ?v8_8) rfl (by kernel_rfl) (by kernel_rfl) (by kernel_rfl) (fun _ _ _ h => h) (Or.inl ⟨by rfl, ?y8_8⟩) hHeld ?r8_8
          case y8_8 => (intro w hSw; (try dsimp only at hSw); go_split_ands; go_simp; try with_reducible rfl)
          try simp only [List.getElem_toArray, List.getElem_cons_succ, List.getElem_cons_zero, Act.put, List.setIfInBounds_toArray, List.set_cons_zero, List.set_cons_succ]
          refine wpAnyH_take (i := 9) (v := ?v9_9) rfl (by kernel_rfl) (by kernel_rfl) (by kernel_rfl) (fun _ _ _ h => h) (Or.inl ⟨by rfl, ?y9_9⟩) hHeld ?r9_9
          case y9_9 => (intro w hSw; (try dsimp only at hSw); go_split_ands; go_simp; try with_reducible rfl)
          try simp only [List.getElem_toArray, List.getElem_cons_succ, List.getElem_cons_zero, Act.put, List.setIfInBounds_toArray, List.set_cons_zero, List.set_cons_succ]
          refine wpAnyH_take (i := 10) (v := ?v10_10) rfl (by kernel_rfl) (by kernel_rfl) (by kernel_rfl) (fun _ _ _ h => h) (Or.inl ⟨by rfl, ?y10_10⟩) hHeld ?r10_10
          case y10_10 => (intro w hSw; (try dsimp only at hSw); go_split_ands; go_simp; try with_reducible rfl)
          try simp only [List.getElem_toArray, List.getElem_cons_succ, List.getElem_cons_zero, Act.put, List.setIfInBounds_toArray, List.set_cons_zero, List.set_cons_succ]
          refine wpAnyH_take (i := 11) (v := ?v11_11) rfl (by kernel_rfl) (by kernel_rfl) (by kernel_rfl) (fun _ _ _ h => h) (Or.inl ⟨by rfl, ?y11_11⟩) hHeld ?r11_11
          case y11_11 => (intro w hSw; (try dsimp only at hSw); go_split_ands; go_simp; try with_reducible rfl)
          try simp only [List.getElem_toArray, List.getElem_cons_succ, List.getElem_cons_zero, Act.put, List.setIfInBounds_toArray, List.set_cons_zero, List.set_cons_succ]
          refine wpAnyH_take (i := 12) (v := ?v12_12) rfl (by kernel_rfl) (by kernel_rfl) (by kernel_rfl) (fun _ _ _ h => h) (Or.inl ⟨by rfl, ?y12_12⟩) hHeld ?r12_12
          case y12_12 => (intro w hSw; (try dsimp only at hSw); go_split_ands; go_simp; try with_reducible rfl)
          try simp only [List.getElem_toArray, List.getElem_cons_succ, List.getElem_cons_zero, Act.put, List.setIfInBounds_toArray, List.set_cons_zero, List.set_cons_succ]
          refine wpAnyH_take (i := 13) (v := ?v13_13) rfl (by kernel_rfl) (by kernel_rfl) (by kernel_rfl) (fun _ _ _ h => h) (Or.inl ⟨by rfl, ?y13_13⟩) hHeld ?r13_13
          case y13_13 => (intro w hSw; (try dsimp only at hSw); go_split_ands; go_simp; try with_reducible rfl)
          try simp only [List.getElem_toArray, List.getElem_cons_succ, List.getElem_cons_zero, Act.put, List.setIfInBounds_toArray, List.set_cons_zero, List.set_cons_succ]
          refine wpAnyH_take (i := 14) (v := ?v14_14) rfl (by kernel_rfl) (by kernel_rfl) (by kernel_rfl) (fun _ _ _ h => h) (Or.inl ⟨by rfl, ?y14_14⟩) hHeld ?r14_14
          case y14_14 => (intro w hSw; (try dsimp only at hSw); go_split_ands; go_simp; try with_reducible rfl)
          try simp only [List.getElem_toArray, List.getElem_cons_succ, List.getElem_cons_zero, Act.put, List.setIfInBounds_toArray, List.set_cons_zero, List.set_cons_succ]
          refine wpAnyH_ready (rs := [7]) (by kernel_rfl) (by simp) ?_
          refine AllReadyH.cons rfl (fun K hK => ?_) AllReadyH.nil
          have hHeld' := hHeld
          try dsimp only at hHeld'
          go_split_ands
          go_simp
          refine SA.out.mono ?_
          rintro e w5 ⟨vr, rfl, ho, hL5, hg⟩
          have hqb := hKd.out.lt
          have hA5 := var_gby hAd.out hg hyp
          have hB5 := var_gby hBd.out hg hzp
          have hK5 := LS_gby2 hKd.out hLd.out hg (fun h => hpq h.symm)
          have hM5 := hMd.out.gby hg hgp
          have hb5 := hbd.out.gp hg hwp
          replace hA5 := Lib.hid hA5
          replace hB5 := Lib.hid hB5
          replace hK5 := Lib.hid hK5
          replace hM5 := Lib.hid hM5
          replace hb5 := Lib.hid hb5
          replace hL5 := Lib.hid hL5
          replace ho := Lib.hid ho
          clear SA hg
          refine hK.out _ _ ?_ (fun hHeld => ?_)
          · exact ⟨(three hA5.out).1, (three hA5.out).2.1, (three hA5.out).2.2, three hB5.out⟩
          clear hK K
          try simp only [List.getElem_toArray, List.getElem_cons_succ, List.getElem_cons_zero, Act.put, List.setIfInBounds_toArray, List.set_cons_zero, List.set_cons_succ]
          refine wpAnyH_ready (rs := [15]) (by kernel_rfl) (by simp) ?_
          refine AllReadyH.cons rfl (fun K hK => ?_) AllReadyH.nil
          have hHeld' := hHeld
          try dsimp only at hHeld'
          go_split_ands
          go_simp
          refine (SB.out _ hK5.out).mono ?_
          rintro e w6 ⟨vq, rfl, ho2, hK6, hg⟩
          have hA6 := var_gby hA5.out hg hyq
          have hB6 := var_gby hB5.out hg hzq
          have hL6 := LS_gby2 hL5.out hK5.out hg hpq
          have hM6 := hM5.out.gby hg hgq
          have ho6 := ho.out.gby hg hqb
          have hb6 := hb5.out.gp hg hwq
          replace hA6 := Lib.hid hA6
          replace hB6 := Lib.hid hB6
          replace hK6 := Lib.hid hK6
          replace hL6 := Lib.hid hL6
          replace hM6 := Lib.hid hM6
          replace hb6 := Lib.hid hb6
          replace ho2 := Lib.hid ho2
          replace ho6 := Lib.hid ho6
          clear SB hg hL5 hK5 hM5 hb5 hA5 hB5 ho
          refine hK.out _ _ ?_ (fun hHeld => ?_)
          · exact ⟨(three hA6.out).1, (three hA6.out).2.1, (three hA6.out).2.2, three hB6.out⟩
          clear hK K
          try simp only [List.getElem_toArray, List.getElem_cons_succ, List.getElem_cons_zero, Act.put, List.setIfInBounds_toArray, List.set_cons_zero, List.set_cons_succ]
          refine wpAnyH_ready (rs := [16]) (by kernel_rfl) (by simp) ?_
          refine AllReadyH.cons rfl (fun K hK => ?_) AllReadyH.nil
          have hHeld' := hHeld
          try dsimp only at hHeld'
          go_split_ands
          go_simp
          refine (same_any _ _ vr vq w6 ho6.out.ints ho2.out.ints hsl hsl).mono ?_
          rintro e w7 ⟨rfl, hb7⟩
          have hA7 := var_bl hA6.out hb7
          have hB7 := var_bl hB6.out hb7
          refine hK.out _ _ ?_ (fun hHeld => ?_)
          · exact ⟨(three hA7).1, (three hA7).2.1, (three hA7).2.2, three hB7⟩
          clear hK K
          try simp only [List.getElem_toArray, List.getElem_cons_succ, List.getElem_cons_zero, Act.put, List.setIfInBounds_toArray, List.set_cons_zero, List.set_cons_succ]
          refine wpAnyH_take (i := 17) (v := ?v17_15) rfl (by kernel_rfl) (by kernel_rfl) (by kernel_rfl) (fun _ _ _ h => h) (Or.inl ⟨by rfl, ?y17_15⟩) hHeld ?r17_15
          case y17_15 => (intro w hSw; (try dsimp only at hSw); go_split_ands; go_simp; try with_reducible rfl)
          try simp only [List.getElem_toArray, List.getElem_cons_succ, List.getElem_cons_zero, Act.put, List.setIfInBounds_toArray, List.set_cons_zero, List.set_cons_succ]
          refine wpAnyH_done (by kernel_rfl) ?_ _
          have e7 : decide (sent s = sent s) = true := decide_eq_true rfl
          go_wp2_with fail
          go_roundw
          case rel => exact ⟨j + 1, c', by omega, by go_num, by have := hK.out; rwa [show ((j + 1 : Nat) : Int) = (j : Int) + 1 by omega], hL6.out.bl hb7, hK6.out.bl hb7, hM6.out.bl hb7, hb6.out.tr hb7⟩
          case measure => simp [intOf] <;> omega
        | false =>
          have hBc := hB2.out
          replace hLw := hLw.out
          replace hKw := hKw.out
          replace hMw := hMw.out
          replace hA2 := hA2.out
          replace hbw2 := hbw2.out
          have SA := send_ls wb.drew p 1 F cnt t u v j (hLw.bl (Bl.rfl' wb).dr) (by omega) (fun x hx => (hFF.out x hx).f) hok (by omega) t0 (by omega) (by omega) (by omega)
          have SB := fun w' (h : LS w' q 1 F cnt) => send_ls w' q 1 F cnt t u v j h (by omega) (fun x hx => (hFF.out x hx).f) hok (by omega) t0 (by omega) (by omega) (by omega)
          have hK := sq_ok (A := F) (now := t) (u := u) (v := v) (hop := 1) hok
          have hsh := sent_shape (sq F t u v 1 cnt)
          rw [(rfl : sq F t u v 1 cnt = sq F t u v 1 cnt)] at SB
          obtain ⟨s, hs⟩ : ∃ z_, (sq F t u v 1 cnt) = z_ := ⟨_, rfl⟩
          rw [hs] at SA SB hK hsh
          have hsl : (sent s).length ≤ maxLen := by unfold maxLen; rcases hsh with h | h | h <;> (rw [h]; simp)
          have hLd := hLw.bl (Bl.rfl' wb).dr
          have hKd := hKw.bl (Bl.rfl' wb).dr
          have hMd := hMw.bl (Bl.rfl' wb).dr
          have hAd := var_bl hA2 (Bl.rfl' wb).dr
          have hBd := var_bl hBc (Bl.rfl' wb).dr
          have hbd := hbw2.dr
          obtain ⟨c', hc'⟩ : ∃ z_, (s.cnt) = z_ := ⟨_, rfl⟩
          rw [hc'] at SA SB hK
          clear hs hsh hok hLw hKw hMw hbw2 hc'
          replace SA := Lib.hid SA
          replace SB := Lib.hid SB
          replace hK := Lib.hid hK
          replace hLd := Lib.hid hLd
          replace hKd := Lib.hid hKd
          replace hMd := Lib.hid hMd
          replace hAd := Lib.hid hAd
          replace hBd := Lib.hid hBd
          replace hbd := Lib.hid hbd
          obtain ⟨f0, f1, f2⟩ := three hA2
          clear hBc hA2
          go_upto_region 12 with fail
          clear f0 f1 f2
          refine wp_region_held_drew (S := fun w' => w'.cell? ⟨y, 0, none⟩ = some (I t) ∧ w'.cell? ⟨y, 1, none⟩ = some (I u) ∧ w'.cell? ⟨y, 2, none⟩ = some (I v) ∧ w'.cell? ⟨y + 1, 0, none⟩ = some (I t) ∧ w'.cell? ⟨y + 1, 1, none⟩ = some (I u) ∧ w'.cell? ⟨y + 1, 2, none⟩ = some (I v)) (by kernel_rfl) ?_ (fun hHeld => ?_)
          · exact ⟨(three hAd.out).1, (three hAd.out).2.1, (three hAd.out).2.2, three hBd.out⟩
          refine wpAnyH_take (i := 0) (v := ?v0_16) rfl (by kernel_rfl) (by kernel_rfl) (by kernel_rfl) (fun _ _ _ h => h) (Or.inl ⟨by rfl, ?y0_16⟩) hHeld ?r0_16
          case y0_16 => (intro w hSw; (try dsimp only at hSw); go_split_ands; go_simp; try with_reducible rfl)
          try simp only [List.getElem_toArray, List.getElem_cons_succ, List.getElem_cons_zero, Act.put, List.setIfInBounds_toArray, List.set_cons_zero, List.set_cons_succ]
          refine wpAnyH_take (i := 1) (v := ?v1_17) rfl (by kernel_rfl) (by kernel_rfl) (by kernel_rfl) (fun _ _ _ h => h) (Or.inl ⟨by rfl, ?y1_17⟩) hHeld ?r1_17
          case y1_17 => (intro w hSw; (try dsimp only at hSw); go_split_ands; go_simp; try with_reducible rfl)
          try simp only [List.getElem_toArray, List.getElem_cons_succ, List.getElem_cons_zero, Act.put, List.setIfInBounds_toArray, List.set_cons_zero, List.set_cons_succ]
          refine wpAnyH_take (i := 2) (v := ?v2_18) rfl (by kernel_rfl) (by kernel_rfl) (by kernel_rfl) (fun _ _ _ h => h) (Or.inl ⟨by rfl, ?y2_18⟩) hHeld ?r2_18
          case y2_18 => (intro w hSw; (try dsimp only at hSw); go_split_ands; go_simp; try with_reducible rfl)
          try simp only [List.getElem_toArray, List.getElem_cons_succ, List.getElem_cons_zero, Act.put, List.setIfInBounds_toArray, List.set_cons_zero, List.set_cons_succ]
          refine wpAnyH_take (i := 3) (v := ?v3_19) rfl (by kernel_rfl) (by kernel_rfl) (by kernel_rfl) (fun _ _ _ h => h) (Or.inl ⟨by rfl, ?y3_19⟩) hHeld ?r3_19
          case y3_19 => (intro w hSw; (try dsimp only at hSw); go_split_ands; go_simp; try with_reducible rfl)
          try simp only [List.getElem_toArray, List.getElem_cons_succ, List.getElem_cons_zero, Act.put, List.setIfInBounds_toArray, List.set_cons_zero, List.set_cons_succ]
          refine wpAnyH_take (i := 4) (v := ?v4_20) rfl (by kernel_rfl) (by kernel_rfl) (by kernel_rfl) (fun _ _ _ h => h) (Or.inl ⟨by rfl, ?y4_20⟩) hHeld ?r4_20
          case y4_20 => (intro w hSw; (try dsimp only at hSw); go_split_ands; go_simp; try with_reducible rfl)
          try simp only [List.getElem_toArray, List.getElem_cons_succ, List.getElem_cons_zero, Act.put, List.setIfInBounds_toArray, List.set_cons_zero, List.set_cons_succ]
          refine wpAnyH_take (i := 5) (v := ?v5_21) rfl (by kernel_rfl) (by kernel_rfl) (by kernel_rfl) (fun _ _ _ h => h) (Or.inl ⟨by rfl, ?y5_21⟩) hHeld ?r5_21
          case y5_21 => (intro w hSw; (try dsimp only at hSw); go_split_ands; go_simp; try with_reducible rfl)
          try simp only [List.getElem_toArray, List.getElem_cons_succ, List.getElem_cons_zero, Act.put, List.setIfInBounds_toArray, List.set_cons_zero, List.set_cons_succ]
          refine wpAnyH_take (i := 6) (v := ?v6_22) rfl (by kernel_rfl) (by kernel_rfl) (by kernel_rfl) (fun _ _ _ h => h) (Or.inl ⟨by rfl, ?y6_22⟩) hHeld ?r6_22
          case y6_22 => (intro w hSw; (try dsimp only at hSw); go_split_ands; go_simp; try with_reducible rfl)
          try simp only [List.getElem_toArray, List.getElem_cons_succ, List.getElem_cons_zero, Act.put, List.setIfInBounds_toArray, List.set_cons_zero, List.set_cons_succ]
          refine wpAnyH_take (i := 8) (v := ?v8_23) rfl (by kernel_rfl) (by kernel_rfl) (by kernel_rfl) (fun _ _ _ h => h) (Or.inl ⟨by rfl, ?y8_23⟩) hHeld ?r8_23
          case y8_23 => (intro w hSw; (try dsimp only at hSw); go_split_ands; go_simp; try with_reducible rfl)
          try simp only [List.getElem_toArray, List.getElem_cons_succ, List.getElem_cons_zero, Act.put, List.setIfInBounds_toArray, List.set_cons_zero, List.set_cons_succ]
          refine wpAnyH_take (i := 9) (v := ?v9_24) rfl (by kernel_rfl) (by kernel_rfl) (by kernel_rfl) (fun _ _ _ h => h) (Or.inl ⟨by rfl, ?y9_24⟩) hHeld ?r9_24
          case y9_24 => (intro w hSw; (try dsimp only at hSw); go_split_ands; go_simp; try with_reducible rfl)
          try simp only [List.getElem_toArray, List.getElem_cons_succ, List.getElem_cons_zero, Act.put, List.setIfInBounds_toArray, List.set_cons_zero, List.set_cons_succ]
          refine wpAnyH_take (i := 10) (v := ?v10_25) rfl (by kernel_rfl) (by kernel_rfl) (by kernel_rfl) (fun _ _ _ h => h) (Or.inl ⟨by rfl, ?y10_25⟩) hHeld ?r10_25
          case y10_25 => (intro w hSw; (try dsimp only at hSw); go_split_ands; go_simp; try with_reducible rfl)
          try simp only [List.getElem_toArray, List.getElem_cons_succ, List.getElem_cons_zero, Act.put, List.setIfInBounds_toArray, List.set_cons_zero, List.set_cons_succ]
          refine wpAnyH_take (i := 11) (v := ?v11_26) rfl (by kernel_rfl) (by kernel_rfl) (by kernel_rfl) (fun _ _ _ h => h) (Or.inl ⟨by rfl, ?y11_26⟩) hHeld ?r11_26
          case y11_26 => (intro w hSw; (try dsimp only at hSw); go_split_ands; go_simp; try with_reducible rfl)
          try simp only [List.getElem_toArray, List.getElem_cons_succ, List.getElem_cons_zero, Act.put, List.setIfInBounds_toArray, List.set_cons_zero, List.set_cons_succ]
          refine wpAnyH_take (i := 12) (v := ?v12_27) rfl (by kernel_rfl) (by kernel_rfl) (by kernel_rfl) (fun _ _ _ h => h) (Or.inl ⟨by rfl, ?y12_27⟩) hHeld ?r12_27
          case y12_27 => (intro w hSw; (try dsimp only at hSw); go_split_ands; go_simp; try with_reducible rfl)
          try simp only [List.getElem_toArray, List.getElem_cons_succ, List.getElem_cons_zero, Act.put, List.setIfInBounds_toArray, List.set_cons_zero, List.set_cons_succ]
          refine wpAnyH_take (i := 13) (v := ?v13_28) rfl (by kernel_rfl) (by kernel_rfl) (by kernel_rfl) (fun _ _ _ h => h) (Or.inl ⟨by rfl, ?y13_28⟩) hHeld ?r13_28
          case y13_28 => (intro w hSw; (try dsimp only at hSw); go_split_ands; go_simp; try with_reducible rfl)
          try simp only [List.getElem_toArray, List.getElem_cons_succ, List.getElem_cons_zero, Act.put, List.setIfInBounds_toArray, List.set_cons_zero, List.set_cons_succ]
          refine wpAnyH_take (i := 14) (v := ?v14_29) rfl (by kernel_rfl) (by kernel_rfl) (by kernel_rfl) (fun _ _ _ h => h) (Or.inl ⟨by rfl, ?y14_29⟩) hHeld ?r14_29
          case y14_29 => (intro w hSw; (try dsimp only at hSw); go_split_ands; go_simp; try with_reducible rfl)
          try simp only [List.getElem_toArray, List.getElem_cons_succ, List.getElem_cons_zero, Act.put, List.setIfInBounds_toArray, List.set_cons_zero, List.set_cons_succ]
          refine wpAnyH_ready (rs := [7]) (by kernel_rfl) (by simp) ?_
          refine AllReadyH.cons rfl (fun K hK => ?_) AllReadyH.nil
          have hHeld' := hHeld
          try dsimp only at hHeld'
          go_split_ands
          go_simp
          refine SA.out.mono ?_
          rintro e w5 ⟨vr, rfl, ho, hL5, hg⟩
          have hqb := hKd.out.lt
          have hA5 := var_gby hAd.out hg hyp
          have hB5 := var_gby hBd.out hg hzp
          have hK5 := LS_gby2 hKd.out hLd.out hg (fun h => hpq h.symm)
          have hM5 := hMd.out.gby hg hgp
          have hb5 := hbd.out.gp hg hwp
          replace hA5 := Lib.hid hA5
          replace hB5 := Lib.hid hB5
          replace hK5 := Lib.hid hK5
          replace hM5 := Lib.hid hM5
          replace hb5 := Lib.hid hb5
          replace hL5 := Lib.hid hL5
          replace ho := Lib.hid ho
          clear SA hg
          refine hK.out _ _ ?_ (fun hHeld => ?_)
          · exact ⟨(three hA5.out).1, (three hA5.out).2.1, (three hA5.out).2.2, three hB5.out⟩
          clear hK K
          try simp only [List.getElem_toArray, List.getElem_cons_succ, List.getElem_cons_zero, Act.put, List.setIfInBounds_toArray, List.set_cons_zero, List.set_cons_succ]
          refine wpAnyH_ready (rs := [15]) (by kernel_rfl) (by simp) ?_
          refine AllReadyH.cons rfl (fun K hK => ?_) AllReadyH.nil
          have hHeld' := hHeld
          try dsimp only at hHeld'
          go_split_ands
          go_simp
          refine (SB.out _ hK5.out).mono ?_
          rintro e w6 ⟨vq, rfl, ho2, hK6, hg⟩
          have hA6 := var_gby hA5.out hg hyq
          have hB6 := var_gby hB5.out hg hzq
          have hL6 := LS_gby2 hL5.out hK5.out hg hpq
          have hM6 := hM5.out.gby hg hgq
          have ho6 := ho.out.gby hg hqb
          have hb6 := hb5.out.gp hg hwq
          replace hA6 := Lib.hid hA6
          replace hB6 := Lib.hid hB6
          replace hK6 := Lib.hid hK6
          replace hL6 := Lib.hid hL6
          replace hM6 := Lib.hid hM6
          replace hb6 := Lib.hid hb6
          replace ho2 := Lib.hid ho2
          replace ho6 := Lib.hid ho6
          clear SB hg hL5 hK5 hM5 hb5 hA5 hB5 ho
          refine hK.out _ _ ?_ (fun hHeld => ?_)
          · exact ⟨(three hA6.out).1, (three hA6.out).2.1, (three hA6.out).2.2, three hB6.out⟩
          clear hK K
          try simp only [List.getElem_toArray, List.getElem_cons_succ, List.getElem_cons_zero, Act.put, List.setIfInBounds_toArray, List.set_cons_zero, List.set_cons_succ]
          refine wpAnyH_ready (rs := [16]) (by kernel_rfl) (by simp) ?_
          refine AllReadyH.cons rfl (fun K hK => ?_) AllReadyH.nil
          have hHeld' := hHeld
          try dsimp only at hHeld'
          go_split_ands
          go_simp
          refine (same_any _ _ vr vq w6 ho6.out.ints ho2.out.ints hsl hsl).mono ?_
          rintro e w7 ⟨rfl, hb7⟩
          have hA7 := var_bl hA6.out hb7
          have hB7 := var_bl hB6.out hb7
          refine hK.out _ _ ?_ (fun hHeld => ?_)
          · exact ⟨(three hA7).1, (three hA7).2.1, (three hA7).2.2, three hB7⟩
          clear hK K
          try simp only [List.getElem_toArray, List.getElem_cons_succ, List.getElem_cons_zero, Act.put, List.setIfInBounds_toArray, List.set_cons_zero, List.set_cons_succ]
          refine wpAnyH_take (i := 17) (v := ?v17_30) rfl (by kernel_rfl) (by kernel_rfl) (by kernel_rfl) (fun _ _ _ h => h) (Or.inl ⟨by rfl, ?y17_30⟩) hHeld ?r17_30
          case y17_30 => (intro w hSw; (try dsimp only at hSw); go_split_ands; go_simp; try with_reducible rfl)
          try simp only [List.getElem_toArray, List.getElem_cons_succ, List.getElem_cons_zero, Act.put, List.setIfInBounds_toArray, List.set_cons_zero, List.set_cons_succ]
          refine wpAnyH_done (by kernel_rfl) ?_ _
          have e7 : decide (sent s = sent s) = true := decide_eq_true rfl
          go_wp2_with fail
          go_roundw
          case rel => exact ⟨j + 1, c', by omega, by go_num, by have := hK.out; rwa [show ((j + 1 : Nat) : Int) = (j : Int) + 1 by omega], hL6.out.bl hb7, hK6.out.bl hb7, hM6.out.bl hb7, hb6.out.tr hb7⟩
          case measure => simp [intOf] <;> omega
      · have hBc := hB2.out
        replace hLw := hLw.out
        replace hKw := hKw.out
        replace hMw := hMw.out
        replace hA2 := hA2.out
        replace hbw2 := hbw2.out
        have SA := send_ls wb.drew p 1 F cnt t u v j (hLw.bl (Bl.rfl' wb).dr) (by omega) (fun x hx => (hFF.out x hx).f) hok (by omega) t0 (by omega) (by omega) (by omega)
        have SB := fun w' (h : LS w' q 1 F cnt) => send_ls w' q 1 F cnt t u v j h (by omega) (fun x hx => (hFF.out x hx).f) hok (by omega) t0 (by omega) (by omega) (by omega)
        have hK := sq_ok (A := F) (now := t) (u := u) (v := v) (hop := 1) hok
        have hsh := sent_shape (sq F t u v 1 cnt)
        rw [(rfl : sq F t u v 1 cnt = sq F t u v 1 cnt)] at SB
        obtain ⟨s, hs⟩ : ∃ z_, (sq F t u v 1 cnt) = z_ := ⟨_, rfl⟩
        rw [hs] at SA SB hK hsh
        have hsl : (sent s).length ≤ maxLen := by unfold maxLen; rcases hsh with h | h | h <;> (rw [h]; simp)
        have hLd := hLw.bl (Bl.rfl' wb).dr
        have hKd := hKw.bl (Bl.rfl' wb).dr
        have hMd := hMw.bl (Bl.rfl' wb).dr
        have hAd := var_bl hA2 (Bl.rfl' wb).dr
        have hBd := var_bl hBc (Bl.rfl' wb).dr
        have hbd := hbw2.dr
        obtain ⟨c', hc'⟩ : ∃ z_, (s.cnt) = z_ := ⟨_, rfl⟩
        rw [hc'] at SA SB hK
        clear hs hsh hok hLw hKw hMw hbw2 hc'
        replace SA := Lib.hid SA
        replace SB := Lib.hid SB
        replace hK := Lib.hid hK
        replace hLd := Lib.hid hLd
        replace hKd := Lib.hid hKd
        replace hMd := Lib.hid hMd
        replace hAd := Lib.hid hAd
        replace hBd := Lib.hid hBd
        replace hbd := Lib.hid hbd
        obtain ⟨f0, f1, f2⟩ := three hA2
        clear hBc hA2
        go_upto_region 12 with fail
        clear f0 f1 f2
        refine wp_region_held_drew (S := fun w' => w'.cell? ⟨y, 0, none⟩ = some (I t) ∧ w'.cell? ⟨y, 1, none⟩ = some (I u) ∧ w'.cell? ⟨y, 2, none⟩ = some (I v) ∧ w'.cell? ⟨y + 1, 0, none⟩ = some (I t) ∧ w'.cell? ⟨y + 1, 1, none⟩ = some (I u) ∧ w'.cell? ⟨y + 1, 2, none⟩ = some (I v)) (by kernel_rfl) ?_ (fun hHeld => ?_)
        · exact ⟨(three hAd.out).1, (three hAd.out).2.1, (three hAd.out).2.2, three hBd.out⟩
        refine wpAnyH_take (i := 0) (v := ?v0_31) rfl (by kernel_rfl) (by kernel_rfl) (by kernel_rfl) (fun _ _ _ h => h) (Or.inl ⟨by rfl, ?y0_31⟩) hHeld ?r0_31
        case y0_31 => (intro w hSw; (try dsimp only at hSw); go_split_ands; go_simp; try with_reducible rfl)
        try simp only [List.getElem_toArray, List.getElem_cons_succ, List.getElem_cons_zero, Act.put, List.setIfInBounds_toArray, List.set_cons_zero, List.set_cons_succ]
        refine wpAnyH_take (i := 1) (v := ?v1_32) rfl (by kernel_rfl) (by kernel_rfl) (by kernel_rfl) (fun _ _ _ h => h) (Or.inl ⟨by rfl, ?y1_32⟩) hHeld ?r1_32
        case y1_32 => (intro w hSw; (try dsimp only at hSw); go_split_ands; go_simp; try with_reducible rfl)
        try simp only [List.getElem_toArray, List.getElem_cons_succ, List.getElem_cons_zero, Act.put, List.setIfInBounds_toArray, List.set_cons_zero, List.set_cons_succ]
        refine wpAnyH_take (i := 2) (v := ?v2_33) rfl (by kernel_rfl) (by kernel_rfl) (by kernel_rfl) (fun _ _ _ h => h) (Or.inl ⟨by rfl, ?y2_33⟩) hHeld ?r2_33
        case y2_33 => (intro w hSw; (try dsimp only at hSw); go_split_ands; go_simp; try with_reducible rfl)
        try simp only [List.getElem_toArray, List.getElem_cons_succ, List.getElem_cons_zero, Act.put, List.setIfInBounds_toArray, List.set_cons_zero, List.set_cons_succ]
        refine wpAnyH_take (i := 3) (v := ?v3_34) rfl (by kernel_rfl) (by kernel_rfl) (by kernel_rfl) (fun _ _ _ h => h) (Or.inl ⟨by rfl, ?y3_34⟩) hHeld ?r3_34
        case y3_34 => (intro w hSw; (try dsimp only at hSw); go_split_ands; go_simp; try with_reducible rfl)
        try simp only [List.getElem_toArray, List.getElem_cons_succ, List.getElem_cons_zero, Act.put, List.setIfInBounds_toArray, List.set_cons_zero, List.set_cons_succ]
        refine wpAnyH_take (i := 4) (v := ?v4_35) rfl (by kernel_rfl) (by kernel_rfl) (by kernel_rfl) (fun _ _ _ h => h) (Or.inl ⟨by rfl, ?y4_35⟩) hHeld ?r4_35
        case y4_35 => (intro w hSw; (try dsimp only at hSw); go_split_ands; go_simp; try with_reducible rfl)
        try simp only [List.getElem_toArray, List.getElem_cons_succ, List.getElem_cons_zero, Act.put, List.setIfInBounds_toArray, List.set_cons_zero, List.set_cons_succ]
        refine wpAnyH_take (i := 5) (v := ?v5_36) rfl (by kernel_rfl) (by kernel_rfl) (by kernel_rfl) (fun _ _ _ h => h) (Or.inl ⟨by rfl, ?y5_36⟩) hHeld ?r5_36
        case y5_36 => (intro w hSw; (try dsimp only at hSw); go_split_ands; go_simp; try with_reducible rfl)
        try simp only [List.getElem_toArray, List.getElem_cons_succ, List.getElem_cons_zero, Act.put, List.setIfInBounds_toArray, List.set_cons_zero, List.set_cons_succ]
        refine wpAnyH_take (i := 6) (v := ?v6_37) rfl (by kernel_rfl) (by kernel_rfl) (by kernel_rfl) (fun _ _ _ h => h) (Or.inl ⟨by rfl, ?y6_37⟩) hHeld ?r6_37
        case y6_37 => (intro w hSw; (try dsimp only at hSw); go_split_ands; go_simp; try with_reducible rfl)
        try simp only [List.getElem_toArray, List.getElem_cons_succ, List.getElem_cons_zero, Act.put, List.setIfInBounds_toArray, List.set_cons_zero, List.set_cons_succ]
        refine wpAnyH_take (i := 8) (v := ?v8_38) rfl (by kernel_rfl) (by kernel_rfl) (by kernel_rfl) (fun _ _ _ h => h) (Or.inl ⟨by rfl, ?y8_38⟩) hHeld ?r8_38
        case y8_38 => (intro w hSw; (try dsimp only at hSw); go_split_ands; go_simp; try with_reducible rfl)
        try simp only [List.getElem_toArray, List.getElem_cons_succ, List.getElem_cons_zero, Act.put, List.setIfInBounds_toArray, List.set_cons_zero, List.set_cons_succ]
        refine wpAnyH_take (i := 9) (v := ?v9_39) rfl (by kernel_rfl) (by kernel_rfl) (by kernel_rfl) (fun _ _ _ h => h) (Or.inl ⟨by rfl, ?y9_39⟩) hHeld ?r9_39
        case y9_39 => (intro w hSw; (try dsimp only at hSw); go_split_ands; go_simp; try with_reducible rfl)
        try simp only [List.getElem_toArray, List.getElem_cons_succ, List.getElem_cons_zero, Act.put, List.setIfInBounds_toArray, List.set_cons_zero, List.set_cons_succ]
        refine wpAnyH_take (i := 10) (v := ?v10_40) rfl (by kernel_rfl) (by kernel_rfl) (by kernel_rfl) (fun _ _ _ h => h) (Or.inl ⟨by rfl, ?y10_40⟩) hHeld ?r10_40
        case y10_40 => (intro w hSw; (try dsimp only at hSw); go_split_ands; go_simp; try with_reducible rfl)
        try simp only [List.getElem_toArray, List.getElem_cons_succ, List.getElem_cons_zero, Act.put, List.setIfInBounds_toArray, List.set_cons_zero, List.set_cons_succ]
        refine wpAnyH_take (i := 11) (v := ?v11_41) rfl (by kernel_rfl) (by kernel_rfl) (by kernel_rfl) (fun _ _ _ h => h) (Or.inl ⟨by rfl, ?y11_41⟩) hHeld ?r11_41
        case y11_41 => (intro w hSw; (try dsimp only at hSw); go_split_ands; go_simp; try with_reducible rfl)
        try simp only [List.getElem_toArray, List.getElem_cons_succ, List.getElem_cons_zero, Act.put, List.setIfInBounds_toArray, List.set_cons_zero, List.set_cons_succ]
        refine wpAnyH_take (i := 12) (v := ?v12_42) rfl (by kernel_rfl) (by kernel_rfl) (by kernel_rfl) (fun _ _ _ h => h) (Or.inl ⟨by rfl, ?y12_42⟩) hHeld ?r12_42
        case y12_42 => (intro w hSw; (try dsimp only at hSw); go_split_ands; go_simp; try with_reducible rfl)
        try simp only [List.getElem_toArray, List.getElem_cons_succ, List.getElem_cons_zero, Act.put, List.setIfInBounds_toArray, List.set_cons_zero, List.set_cons_succ]
        refine wpAnyH_take (i := 13) (v := ?v13_43) rfl (by kernel_rfl) (by kernel_rfl) (by kernel_rfl) (fun _ _ _ h => h) (Or.inl ⟨by rfl, ?y13_43⟩) hHeld ?r13_43
        case y13_43 => (intro w hSw; (try dsimp only at hSw); go_split_ands; go_simp; try with_reducible rfl)
        try simp only [List.getElem_toArray, List.getElem_cons_succ, List.getElem_cons_zero, Act.put, List.setIfInBounds_toArray, List.set_cons_zero, List.set_cons_succ]
        refine wpAnyH_take (i := 14) (v := ?v14_44) rfl (by kernel_rfl) (by kernel_rfl) (by kernel_rfl) (fun _ _ _ h => h) (Or.inl ⟨by rfl, ?y14_44⟩) hHeld ?r14_44
        case y14_44 => (intro w hSw; (try dsimp only at hSw); go_split_ands; go_simp; try with_reducible rfl)
        try simp only [List.getElem_toArray, List.getElem_cons_succ, List.getElem_cons_zero, Act.put, List.setIfInBounds_toArray, List.set_cons_zero, List.set_cons_succ]
        refine wpAnyH_ready (rs := [7]) (by kernel_rfl) (by simp) ?_
        refine AllReadyH.cons rfl (fun K hK => ?_) AllReadyH.nil
        have hHeld' := hHeld
        try dsimp only at hHeld'
        go_split_ands
        go_simp
        refine SA.out.mono ?_
        rintro e w5 ⟨vr, rfl, ho, hL5, hg⟩
        have hqb := hKd.out.lt
        have hA5 := var_gby hAd.out hg hyp
        have hB5 := var_gby hBd.out hg hzp
        have hK5 := LS_gby2 hKd.out hLd.out hg (fun h => hpq h.symm)
        have hM5 := hMd.out.gby hg hgp
        have hb5 := hbd.out.gp hg hwp
        replace hA5 := Lib.hid hA5
        replace hB5 := Lib.hid hB5
        replace hK5 := Lib.hid hK5
        replace hM5 := Lib.hid hM5
        replace hb5 := Lib.hid hb5
        replace hL5 := Lib.hid hL5
        replace ho := Lib.hid ho
        clear SA hg
        refine hK.out _ _ ?_ (fun hHeld => ?_)
        · exact ⟨(three hA5.out).1, (three hA5.out).2.1, (three hA5.out).2.2, three hB5.out⟩
        clear hK K
        try simp only [List.getElem_toArray, List.getElem_cons_succ, List.getElem_cons_zero, Act.put, List.setIfInBounds_toArray, List.set_cons_zero, List.set_cons_succ]
        refine wpAnyH_ready (rs := [15]) (by kernel_rfl) (by simp) ?_
        refine AllReadyH.cons rfl (fun K hK => ?_) AllReadyH.nil
        have hHeld' := hHeld
        try dsimp only at hHeld'
        go_split_ands
        go_simp
        refine (SB.out _ hK5.out).mono ?_
        rintro e w6 ⟨vq, rfl, ho2, hK6, hg⟩
        have hA6 := var_gby hA5.out hg hyq
        have hB6 := var_gby hB5.out hg hzq
        have hL6 := LS_gby2 hL5.out hK5.out hg hpq
        have hM6 := hM5.out.gby hg hgq
        have ho6 := ho.out.gby hg hqb
        have hb6 := hb5.out.gp hg hwq
        replace hA6 := Lib.hid hA6
        replace hB6 := Lib.hid hB6
        replace hK6 := Lib.hid hK6
        replace hL6 := Lib.hid hL6
        replace hM6 := Lib.hid hM6
        replace hb6 := Lib.hid hb6
        replace ho2 := Lib.hid ho2
        replace ho6 := Lib.hid ho6
        clear SB hg hL5 hK5 hM5 hb5 hA5 hB5 ho
        refine hK.out _ _ ?_ (fun hHeld => ?_)
        · exact ⟨(three hA6.out).1, (three hA6.out).2.1, (three hA6.out).2.2, three hB6.out⟩
        clear hK K
        try simp only [List.getElem_toArray, List.getElem_cons_succ, List.getElem_cons_zero, Act.put, List.setIfInBounds_toArray, List.set_cons_zero, List.set_cons_succ]
        refine wpAnyH_ready (rs := [16]) (by kernel_rfl) (by simp) ?_
        refine AllReadyH.cons rfl (fun K hK => ?_) AllReadyH.nil
        have hHeld' := hHeld
        try dsimp only at hHeld'
        go_split_ands
        go_simp
        refine (same_any _ _ vr vq w6 ho6.out.ints ho2.out.ints hsl hsl).mono ?_
        rintro e w7 ⟨rfl, hb7⟩
        have hA7 := var_bl hA6.out hb7
        have hB7 := var_bl hB6.out hb7
        refine hK.out _ _ ?_ (fun hHeld => ?_)
        · exact ⟨(three hA7).1, (three hA7).2.1, (three hA7).2.2, three hB7⟩
        clear hK K
        try simp only [List.getElem_toArray, List.getElem_cons_succ, List.getElem_cons_zero, Act.put, List.setIfInBounds_toArray, List.set_cons_zero, List.set_cons_succ]
        refine wpAnyH_take (i := 17) (v := ?v17_45) rfl (by kernel_rfl) (by kernel_rfl) (by kernel_rfl) (fun _ _ _ h => h) (Or.inl ⟨by rfl, ?y17_45⟩) hHeld ?r17_45
        case y17_45 => (intro w hSw; (try dsimp only at hSw); go_split_ands; go_simp; try with_reducible rfl)
        try simp only [List.getElem_toArray, List.getElem_cons_succ, List.getElem_cons_zero, Act.put, List.setIfInBounds_toArray, List.set_cons_zero, List.set_cons_succ]
        refine wpAnyH_done (by kernel_rfl) ?_ _
        have e7 : decide (sent s = sent s) = true := decide_eq_true rfl
        go_wp2_with fail
        go_roundw
        case rel => exact ⟨j + 1, c', by omega, by go_num, by have := hK.out; rwa [show ((j + 1 : Nat) : Int) = (j : Int) + 1 by omega], hL6.out.bl hb7, hK6.out.bl hb7, hM6.out.bl hb7, hb6.out.tr hb7⟩
        case measure => simp [intOf] <;> omega
    · obtain rfl : j = N := by omega
      replace hbr := Lib.hid hbr
      clear hok hLS hMR
      go_wp2_with fail
      with_reducible refine (LV.out _).mono ?_
      rintro e w5 ⟨rfl, hb5⟩
      go_wp2_with fail
      go_ret
      exact ⟨rfl, hbr.out.tr hb5⟩
end Go.Proofs.Ytndipeipcodidaa.linkBack
