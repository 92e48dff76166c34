/-
  ZonesMore is true for every input: one more that is well here makes Home no less, and nothing panics that did not; who is nobody's ID is nothing. No condition.
-/
import Derived.Test.YtjajhebnafaflaaZnJ
import Derived.Test.YtjajhebnafaflaaFeed
namespace Go.Proofs.Ytjajhebnafaflaa.zonesMore
open Go.ChangeShapes Go.WideShapes Go.ChangeAt Go.RowKit
open Go.Proofs.Ytjajhebnafaflaa.zones
set_option linter.unusedVariables false
set_option linter.unusedSimpArgs false

theorem feed_one (W : World) (x : Value) (T : TypeId) : Feed (W.alloc (.cells #[x] T)) (.slice (some ⟨W.heap.size, 0, none⟩) 1 1) 1 1 [x] :=
  Or.inr ⟨_, 1, rfl, rfl, fun j y hj => by
    rw [add_plain, Nat.zero_add, cell_at (heap_alloc_new W (.cells #[x] T))]
    simpa using hj⟩
theorem feed_blk {W : World} {b : Nat} {x : Value} {T : TypeId} (h : W.heap[b]? = some (.cells #[x] T (0, 0))) : Feed W (.slice (some ⟨b, 0, none⟩) 1 1) 1 1 [x] :=
  Or.inr ⟨_, 1, rfl, rfl, fun j y hj => by
    rw [add_plain, Nat.zero_add, cell_at h]
    simpa using hj⟩
theorem panic_nobody (Z : List Int) (p : Int) : panicF [] Z p = false := by
  unfold panicF cntZ; simp [evZ]
theorem home_nobody (Z : List Int) (z : Int) : homeF [] Z z = 0 := by
  unfold homeF cntZ; simp [evZ]


set_option maxRecDepth 20000 in
set_option maxHeartbeats 16000000 in
theorem walk {w : World} (v0 : Value) (z0 : List Int) (hv0 : IntsAt w v0 z0) (hz0 : i64ok z0) (hm0 : z0.length ≤ maxLen) (v1 : Value) (z1 : List Int) (hv1 : IntsAt w v1 z1) (hz1 : i64ok z1) (hm1 : z1.length ≤ maxLen) (a2 : Int) (l2 : -9223372036854775808 ≤ a2) (u2 : a2 ≤ 9223372036854775807) (a3 : Int) (l3 : -9223372036854775808 ≤ a3) (u3 : a3 ≤ 9223372036854775807) (a4 : Int) (l4 : -9223372036854775808 ≤ a4) (u4 : a4 ≤ 9223372036854775807) :
    Calls Try.prog 6 #[v0, v1, I a2, I a3, I a4] w fun e w' => e = .returned (.bool true) ∧ Bl w w' := by
  obtain ⟨iu, hiu, zu0, zu1, zu2⟩ := info_parts infoI
  have EN := Lib.hid (ends_any z0 v0 w hv0 hz0 hm0)
  have WE := Lib.hid (fun w' (hb : Bl w w') => wellm_any z1 v1 w' (Rd.below hv1 hb) hz1 hm1)
  have LV := Lib.hid lives_any
  have A2 := Lib.hid (fun w => around_any a2 4 w l2 u2 (by omega) (by omega))
  have A4 := Lib.hid (fun w => around_any a4 101 w l4 u4 (by omega) (by omega))
  have p0 := around_lo a4 101 (by omega); have p1 := around_hi a4 101 (by omega)
  have A3 := Lib.hid (fun m w h1 h2 => around_any a3 m w l3 u3 h1 h2)
  have r0 := fun m h => around_lo a3 m h; have r1 := fun m h => around_hi a3 m h
  obtain ⟨z, hz⟩ : ∃ z_, (around a2 4) = z_ := ⟨_, rfl⟩
  rw [hz] at A2
  obtain ⟨p, hp⟩ : ∃ z_, (around a4 101) = z_ := ⟨_, rfl⟩
  rw [hp] at A4 p0 p1
  clear hz hp hv0 hv1 hz0 hz1 hm0 hm1 l2 u2 l3 u3 l4 u4
  go_enter Try.func6, Try.ntmps6
  go_wp2_with fail
  with_reducible refine (EN.out).mono ?_
  rintro e w1 ⟨v, R, rfl, hR, hO, hb1⟩
  replace hb1 := Lib.hid hb1
  replace hO := Lib.hid hO
  go_wp2_with fail
  with_reducible refine (WE.out _ hb1.out).mono ?_
  rintro e w2 ⟨u, Z, rfl, hZ, hU, hb2⟩
  have hI := ints_own hU
  have hE := (ends_own hO.out (by have := hR.len; omega)).bl hb2
  have hZm : Z.length ≤ maxLen := by have := hZ.1; unfold maxLen; omega
  have hb := hb1.out.tr hb2
  obtain ⟨ea, eg, eo, ec, rfl, hr, hg, hl⟩ := id hE
  have RC := Lib.hid (fun w' (hb : Bl w2 w') i hi => (hr.bl hb).c i hi)
  have HM := Lib.hid (fun w' (hb : Bl w2 w') => home_any _ R _ Z z w' (hE.bl hb) (Rd.below hI hb) hZm)
  have PN := Lib.hid (fun w' (hb : Bl w2 w') => panic_any _ R _ Z p w' (hE.bl hb) (Rd.below hI hb) hZm p0 (by omega))
  have FD := Lib.hid (fun w' (hb : Bl w2 w') => own_feed (own_below hU hb))
  replace hE := Lib.hid (fun w' (hb : Bl w2 w') => hE.bl hb)
  have hR9 := hR.len
  have hZ12 := hZ.1
  have hrn := hR.rng
  have hH := fun h : R = [] => (by rw [h]; exact home_nobody Z z : homeF R Z z = 0)
  have hpn := fun h : R = [] => (by rw [h]; exact panic_nobody Z p : panicF R Z p = false)
  have hC := home_congr (R := R) (Z := Z ++ [99]) (Z' := Z) z (fun x hx => by
    rw [List.mem_append, List.mem_singleton]
    exact ⟨fun h => h.resolve_right (by have := hrn x hx; omega), Or.inl⟩)
  have hA := (Bl.rfl' w2).al (.cells #[] 3)
  have hown0 := Lib.hid (World.ownsRow_lit (base := w2.heap.size) (e := 3) (size := 1) w2 #[] 0 (Nat.le_refl _) (by decide) (by simp))
  have hAs := hA.size
  have FA := Lib.hid (FD.out _ hA)
  clear hr hg hl hI hU hb1 hb2 EN WE hO hrn
  replace hb := Lib.hid hb
  replace hA := Lib.hid hA
  replace hH := Lib.hid hH
  replace hpn := Lib.hid hpn
  replace hC := Lib.hid hC
  go_wp2_with fail
  with_reducible refine (A2.out _).mono ?_
  rintro e w' ⟨rfl, rfl⟩
  go_wp2_with fail
  with_reducible refine (A4.out _).mono ?_
  rintro e w' ⟨rfl, rfl⟩
  clear A2 A4
  go_wp2_with (at_builtin; refine wpList_append_feed rfl _ _ 22 rfl w2.heap.size 3 iu (I 0) 1 8 Try.underlying22 hiu zu0 zu1 zu2 rfl (by decide) _ 0 [] rfl hown0.out _ Z.length (Z.map I) FA.out (by intro u hu; obtain ⟨x, -, rfl⟩ := List.mem_map.1 hu; rfl) (by first | rfl | simp [Act.eval, Act.put]) (by omega) (by omega) (by omega) ?_)
  intro v5 w5 hown5 hgrow5
  have hb5 := hA.out.grown hgrow5 (fun k hk => (hown0.out.lt k hk).1)
  replace hown5 : w5.ownsRow w2.heap.size 3 1 v5 Z.length (Z.map I) := by first | exact hown5 | (rw [Nat.zero_add, List.nil_append] at hown5; exact hown5)
  obtain ⟨oa, oc, rfl⟩ := ints_slice (ints_own hown5)
  have hbs := hb5.size
  clear hgrow5 FA hA hown0
  replace hown5 := Lib.hid hown5
  replace hb5 := Lib.hid hb5
  go_wp2_with (at_builtin; refine wpList_append_one rfl _ _ 22 rfl w2.heap.size 3 iu (I 0) 8 Try.underlying22 hiu zu0 zu1 zu2 rfl _ Z.length (Z.map I) rfl hown5.out (I 99) _ rfl 1 (by first | rfl | simp [Act.eval, Act.put]) (by omega) (by omega) (by omega) ?_)
  intro b' cap' w7 hown7 hgrow7
  have hb7 := hb5.out.grown hgrow7 (fun k hk => (hown5.out.lt k hk).1)
  have hT : w7.ownsRow w2.heap.size 3 1 (.slice (some ⟨b', 0, none⟩) (Z.length + 1) cap') (Z ++ [99]).length ((Z ++ [99]).map I) := by rw [List.length_append, List.map_append]; exact hown7
  have H99 := home_any _ R _ (Z ++ [99]) z w7 (hE.out w7 hb7) (ints_own hT) (by rw [List.length_append]; unfold maxLen; simp; omega)
  rw [hC.out] at H99
  obtain ⟨H, hHH⟩ : ∃ z_, (homeF R Z z) = z_ := ⟨_, rfl⟩
  rw [hHH] at H99 hH
  simp only [hHH] at HM
  obtain ⟨pn, hpp⟩ : ∃ z_, (panicF R Z p) = z_ := ⟨_, rfl⟩
  rw [hpp] at hpn
  simp only [hpp] at PN
  have e1 : (H != H) = false := by simp
  have hbz := hb.out.tr hb7
  have hq2 := hb7
  clear hown7 hgrow7 hT hb7 hown5 hb5 hC
  replace H99 := Lib.hid H99
  replace hbz := Lib.hid hbz
  replace hq2 := Lib.hid hq2
  replace hHH := Lib.hid hHH
  replace hpp := Lib.hid hpp
  go_wp2_with fail
  with_reducible refine (H99.out).mono ?_
  rintro e wa ⟨rfl, hn⟩
  have hz1 := hbz.out.tr hn
  have hq21 := hq2.out.tr hn
  clear hbz hq2 hn
  have hbz := Lib.hid hz1; have hq2 := Lib.hid hq21
  clear hz1 hq21
  go_wp2_with fail
  with_reducible refine (HM.out _ hq2.out).mono ?_
  rintro e wb ⟨rfl, hn⟩
  have hz1 := hbz.out.tr hn
  have hq21 := hq2.out.tr hn
  clear hbz hq2 hn
  have hbz := Lib.hid hz1; have hq2 := Lib.hid hq21
  clear hz1 hq21
  clear H99
  by_cases h0 : R.length = 0
  · have hn0 : R = [] := List.eq_nil_of_length_eq_zero h0
    have hx0 := hH.out hn0
    have hx1 := hpn.out hn0
    subst hx0
    subst hx1
    clear hn0 hH hpn
    simp only [h0] at HM PN
    go_wp2_with fail
    with_reducible refine (HM.out _ hq2.out).mono ?_
    rintro e wc ⟨rfl, hn⟩
    have hz1 := hbz.out.tr hn
    have hq21 := hq2.out.tr hn
    clear hbz hq2 hn
    have hbz := Lib.hid hz1; have hq2 := Lib.hid hq21
    clear hz1 hq21
    go_wp2_with fail
    with_reducible refine (PN.out _ hq2.out).mono ?_
    rintro e wd ⟨rfl, hn⟩
    have hz1 := hbz.out.tr hn
    have hq21 := hq2.out.tr hn
    clear hbz hq2 hn
    have hbz := Lib.hid hz1; have hq2 := Lib.hid hq21
    clear hz1 hq21
    go_wp2_with fail
    with_reducible refine (LV.out _).mono ?_
    rintro e wh ⟨rfl, hn⟩
    go_wp2_with fail
    go_ret
    exact ⟨rfl, hbz.out.tr hn⟩
  · have hl0 : 0 < R.length := by omega
    have AR := A3.out R.length wb (by omega) (by omega)
    have s0 := r0 (R.length : Int) (by omega); have s1 := r1 (R.length : Int) (by omega)
    obtain ⟨xj, hxj⟩ : ∃ z_, (around a3 R.length) = z_ := ⟨_, rfl⟩
    rw [hxj] at AR s0 s1
    obtain ⟨j, rfl⟩ : ∃ j : Nat, xj = j := ⟨xj.toNat, by omega⟩
    obtain ⟨ha, hcc⟩ := RC.out _ hq2.out j (by omega)
    subst ha
    have c0 := hcc 0 (by decide)
    have c1 := hcc 1 (by decide)
    have c2 := hcc 2 (by decide)
    simp only [List.getElem?_cons_succ, List.getElem?_cons_zero, Nat.add_zero, ← Nat.add_assoc] at c0 c1 c2
    have hyR : R.getD j e0 ∈ R := by rw [List.getD_eq_getElem?_getD, List.getElem?_eq_getElem (by omega)]; exact List.getElem_mem _
    obtain ⟨y, hy⟩ : ∃ z_, (R.getD j e0) = z_ := ⟨_, rfl⟩
    rw [hy] at c0 c1 c2 hyR
    obtain ⟨yi, ys, yz⟩ := y
    simp only at c0 c1 c2
    have hjR : j < R.length := by omega
    clear hcc hy hxj r0 r1 hH hpn A3
    have hH := hHH; have hpn := hpp
    clear hHH hpp
    have hW := (Bl.rfl' wb).al (oE ⟨yi, ys, yz⟩)
    have hYW := heap_alloc_new wb (oE ⟨yi, ys, yz⟩)
    have hYs : (wb.alloc (oE ⟨yi, ys, yz⟩)).heap.size = wb.heap.size + 1 := by simp [oE]
    replace AR := Lib.hid AR
    replace hyR := Lib.hid hyR
    go_wp2_with fail
    with_reducible refine (AR.out).mono ?_
    rintro e w' ⟨rfl, rfl⟩
    go_upto_region 10 with fail
    obtain ⟨W0, hW0⟩ : ∃ X, wb.alloc (oE ⟨yi, ys, yz⟩) = X := ⟨_, rfl⟩
    have hW0' : wb.alloc (.cells #[.int .i64 yi, .int .i64 ys, .int .i64 yz] 35) = W0 := hW0
    rw [hW0']
    rw [hW0] at hW hYW hYs
    obtain ⟨yb, hyb⟩ : ∃ b, wb.heap.size = b := ⟨_, rfl⟩
    rw [hyb] at hYW hYs ⊢
    obtain ⟨base, hbase⟩ : ∃ b, W0.heap.size = b := ⟨_, rfl⟩
    rw [hbase] at hYs
    have hyb2 : yb < base := by omega
    have hw2b : w2.heap.size ≤ base := by have := hq2.out.size; have := hW.size; omega
    have hDs : W0.drew.heap.size = base := hbase
    have hq0 := (hq2.out.tr hW).dr
    have hYD := blk_bl hYW (Bl.rfl' W0).dr
    have hal1 := (Bl.rfl' W0.drew).al (.cells #[] 3)
    have hal2 := (Bl.rfl' (W0.drew.alloc (.cells #[] 3))).al (.cells #[I yi] 3)
    have hbl1 := (Bl.rfl' W0.drew).al (.cells #[I yi] 3)
    have hbl2 := (Bl.rfl' (W0.drew.alloc (.cells #[I yi] 3))).al (.cells #[] 3)
    have hY1 := blk_bl hYD hal1
    have hY2 := blk_bl hY1 hal2
    have hX1 := blk_bl hYD hbl1
    have hX2 := blk_bl hX1 hbl2
    have own1 := World.ownsRow_lit (base := base) (e := 3) (size := 1) W0.drew #[] 0 (by omega) (by decide) (by simp)
    have own2 := own_below own1 hal2
    have own3 := World.ownsRow_lit (base := base) (e := 3) (size := 1) (W0.drew.alloc (.cells #[I yi] 3)) #[] 0 (by have := hbl1.size; omega) (by decide) (by simp)
    have F1 := FD.out _ (hq0.tr hal1)
    have F2 := FD.out _ ((hq0.tr hal1).tr hal2)
    have F3 := FD.out _ ((hq0.tr hbl1).tr hbl2)
    have q1 := hq0.tr hal1
    have q2 := q1.tr hal2
    have q3 := (hq0.tr hbl1).tr hbl2
    have C2 := heap_alloc_new (W0.drew.alloc (.cells #[] 3)) (.cells #[I yi] 3)
    have C3 := blk_bl (heap_alloc_new W0.drew (.cells #[I yi] 3)) hbl2
    have zs1 : (W0.drew.alloc (.cells #[] 3)).heap.size = base + 1 := by simp [hbase]
    have zs2 : ((W0.drew.alloc (.cells #[] 3)).alloc (.cells #[I yi] 3)).heap.size = base + 2 := by simp [hbase]
    have zs3 : ((W0.drew.alloc (.cells #[I yi] 3)).alloc (.cells #[] 3)).heap.size = base + 2 := by simp [hbase]
    have zs4 : (W0.drew.alloc (.cells #[I yi] 3)).heap.size = base + 1 := by simp [hbase]
    clear hal1 hal2 hbl1 hbl2 hW hW0 hW0' hYW hq2 hbz AR RC c0 c1 c2 hyb hbase
    replace hYD := Lib.hid hYD
    replace hY1 := Lib.hid hY1
    replace hY2 := Lib.hid hY2
    replace hX1 := Lib.hid hX1
    replace hX2 := Lib.hid hX2
    replace own1 := Lib.hid own1
    replace own2 := Lib.hid own2
    replace own3 := Lib.hid own3
    replace F1 := Lib.hid F1
    replace F2 := Lib.hid F2
    replace F3 := Lib.hid F3
    replace q1 := Lib.hid q1
    replace q2 := Lib.hid q2
    replace q3 := Lib.hid q3
    replace C2 := Lib.hid C2
    replace C3 := Lib.hid C3
    replace zs1 := Lib.hid zs1
    replace zs2 := Lib.hid zs2
    replace zs3 := Lib.hid zs3
    replace zs4 := Lib.hid zs4
    replace hDs := Lib.hid hDs
    replace hq0 := Lib.hid hq0
    refine wp_region_held_drew (S := fun w' => w'.cell? ⟨yb, 0, none⟩ = some (I yi)) (by kernel_rfl) ?_ (fun hHeld => ?_)
    · exact (cell_at hYD.out 0)
    refine wpAnyH_take (i := 1) (v := ?v1_1) rfl (by kernel_rfl) (by kernel_rfl) (by kernel_rfl) (fun _ _ _ h => h) (Or.inl ⟨by rfl, ?y1_1⟩) hHeld ?r1_1
    case y1_1 => (intro w hSw; (try dsimp only at hSw); go_split_ands; go_simp; try with_reducible rfl)
    try simp only [List.getElem_toArray, List.getElem_cons_succ, List.getElem_cons_zero, Act.put, List.setIfInBounds_toArray, List.set_cons_zero, List.set_cons_succ]
    refine wpAnyH_take (i := 3) (v := ?v3_2) rfl (by kernel_rfl) (by kernel_rfl) (by kernel_rfl) (fun _ _ _ h => h) (Or.inl ⟨by rfl, ?y3_2⟩) hHeld ?r3_2
    case y3_2 => (intro w hSw; (try dsimp only at hSw); go_split_ands; go_simp; try with_reducible rfl)
    try simp only [List.getElem_toArray, List.getElem_cons_succ, List.getElem_cons_zero, Act.put, List.setIfInBounds_toArray, List.set_cons_zero, List.set_cons_succ]
    refine wpAnyH_take (i := 4) (v := ?v4_3) rfl (by kernel_rfl) (by kernel_rfl) (by kernel_rfl) (fun _ _ _ h => h) (Or.inl ⟨by rfl, ?y4_3⟩) hHeld ?r4_3
    case y4_3 => (intro w hSw; (try dsimp only at hSw); go_split_ands; go_simp; try with_reducible rfl)
    try simp only [List.getElem_toArray, List.getElem_cons_succ, List.getElem_cons_zero, Act.put, List.setIfInBounds_toArray, List.set_cons_zero, List.set_cons_succ]
    refine wpAnyH_ready (rs := [0, 5]) (by kernel_rfl) (by simp) ?_
    refine AllReadyH.cons rfl (fun K hK => ?_) (AllReadyH.cons rfl (fun K hK => ?_) (AllReadyH.nil))
    · have hHeld' := hHeld
      try dsimp only at hHeld'
      go_split_ands
      go_simp
      refine hK.out _ _ ?_ (fun hHeld => ?_)
      · exact (cell_at hY1.out 0)
      clear hK K
      try simp only [List.getElem_toArray, List.getElem_cons_succ, List.getElem_cons_zero, Act.put, List.setIfInBounds_toArray, List.set_cons_zero, List.set_cons_succ]
      refine wpAnyH_ready (rs := [2, 5]) (by kernel_rfl) (by simp) ?_
      refine AllReadyH.cons rfl (fun K hK => ?_) (AllReadyH.cons rfl (fun K hK => ?_) (AllReadyH.nil))
      · have hown0 := own1
        have hsz : base ≤ (W0.drew.alloc (.cells #[] 3)).heap.size := by have := zs1.out; omega
        refine step_append_feed rfl (.tmp 63) (.tmp 64) 22 rfl base 3 iu (I 0) 1 8 Try.underlying22 hiu zu0 zu1 zu2 rfl (by decide) _ 0 [] (by first | rfl | simp [Act.eval, Act.put]) hown0.out _ Z.length (Z.map I) (F1.out) (by intro u hu; obtain ⟨x, -, rfl⟩ := List.mem_map.1 hu; rfl) (by first | rfl | simp [Act.eval, Act.put]) (by omega) (by omega) hsz ?_
        intro v5 w5 hown5 hgrow5
        have hg5 : (W0.drew.alloc (.cells #[] 3)).heap.size ≤ w5.heap.size := hgrow5.size
        have hown5 : w5.ownsRow base 3 1 v5 Z.length (Z.map I) := by have h := hown5; rw [Nat.zero_add, List.nil_append] at h; exact h
        have hY5 := blk_row hY1.out hgrow5 (fun e => by have := (own1.out.lt _ e).1; omega)
        have hq5 := q1.out.grown hgrow5 (fun k hk => by have := (own1.out.lt k hk).1; have := hq0.out.size; have := hDs.out; omega)
        have hs5 : base ≤ w5.heap.size := by have := zs1.out; omega
        replace hown5 := Lib.hid hown5
        replace hY5 := Lib.hid hY5
        replace hq5 := Lib.hid hq5
        clear hgrow5
        refine hK.out _ _ ?_ (fun hHeld => ?_)
        · exact (cell_at hY5.out 0)
        clear hK K
        try simp only [List.getElem_toArray, List.getElem_cons_succ, List.getElem_cons_zero, Act.put, List.setIfInBounds_toArray, List.set_cons_zero, List.set_cons_succ]
        refine wpAnyH_ready (rs := [5]) (by kernel_rfl) (by simp) ?_
        refine AllReadyH.cons rfl (fun K hK => ?_) AllReadyH.nil
        have hHeld' := hHeld
        try dsimp only at hHeld'
        go_split_ands
        go_simp
        have hY6 := blk_bl hY5.out ((Bl.rfl' w5).al (.cells #[I yi] 3))
        have hown6 := own_below hown5.out ((Bl.rfl' w5).al (.cells #[I yi] 3))
        have hb6 := hq5.out.al (.cells #[I yi] 3)
        have hfd := feed_one w5 (I yi) 3
        have hbs6 : base ≤ (w5.alloc (.cells #[I yi] 3)).heap.size := by have := ((Bl.rfl' w5).al (.cells #[I yi] 3)).size; omega
        replace hY6 := Lib.hid hY6
        replace hown6 := Lib.hid hown6
        replace hb6 := Lib.hid hb6
        replace hfd := Lib.hid hfd
        refine hK.out _ _ ?_ (fun hHeld => ?_)
        · exact (cell_at hY6.out 0)
        clear hK K
        try simp only [List.getElem_toArray, List.getElem_cons_succ, List.getElem_cons_zero, Act.put, List.setIfInBounds_toArray, List.set_cons_zero, List.set_cons_succ]
        refine wpAnyH_ready (rs := [6]) (by kernel_rfl) (by simp) ?_
        refine AllReadyH.cons rfl (fun K hK => ?_) AllReadyH.nil
        refine step_append_feed rfl (.tmp 65) (.tmp 68) 22 rfl base 3 iu (I 0) 1 8 Try.underlying22 hiu zu0 zu1 zu2 rfl (by decide) _ Z.length (Z.map I) (by first | rfl | simp [Act.eval, Act.put]) hown6.out _ 1 [I yi] hfd.out (by intro u hu; simp at hu; subst hu; rfl) (by first | rfl | simp [Act.eval, Act.put]) (by omega) (by omega) hbs6 ?_
        intro v7 w7 hown7 hgrow7
        have hY7 := blk_row hY6.out hgrow7 (fun e => by have := (hown6.out.lt _ e).1; omega)
        have hq7 := hb6.out.grown hgrow7 (fun k hk => by have := (hown6.out.lt k hk).1; omega)
        clear hown6 hfd hY6 hb6 hbs6
        replace hq7 := Lib.hid hq7
        refine hK.out _ _ ?_ (fun hHeld => ?_)
        · exact (cell_at hY7 0)
        clear hK K
        try simp only [List.getElem_toArray, List.getElem_cons_succ, List.getElem_cons_zero, Act.put, List.setIfInBounds_toArray, List.set_cons_zero, List.set_cons_succ]
        refine wpAnyH_take (i := 7) (v := ?v7_4) rfl (by kernel_rfl) (by kernel_rfl) (by kernel_rfl) (fun _ _ _ h => h) (Or.inl ⟨by rfl, ?y7_4⟩) hHeld ?r7_4
        case y7_4 => (intro w hSw; (try dsimp only at hSw); go_split_ands; go_simp; try with_reducible rfl)
        try simp only [List.getElem_toArray, List.getElem_cons_succ, List.getElem_cons_zero, Act.put, List.setIfInBounds_toArray, List.set_cons_zero, List.set_cons_succ]
        refine wpAnyH_done (by kernel_rfl) ?_ _
        have hT : w7.ownsRow base 3 1 v7 (Z ++ [yi]).length ((Z ++ [yi]).map I) := by rw [List.length_append, List.map_append]; exact hown7
        have hIT := ints_own hT
        have hTm : (Z ++ [yi]).length ≤ maxLen := by rw [show (Z ++ [yi]).length = Z.length + 1 by simp]; unfold maxLen; omega
        have hq2 := hq7.out
        have HMM := Lib.hid (fun w' (hb : Bl w7 w') => home_any _ R _ (Z ++ [yi]) z w' (hE.out w' (hq2.tr hb)) (Rd.below hIT hb) hTm)
        have PNM := Lib.hid (fun w' (hb : Bl w7 w') => panic_any _ R _ (Z ++ [yi]) p w' (hE.out w' (hq2.tr hb)) (Rd.below hIT hb) hTm p0 (by omega))
        have hpm := panic_more R Z p yi
        have hmo := fun h => home_more hR.two Z z ⟨yi, ys, yz⟩ hyR.out h
        simp only at hmo
        obtain ⟨H2, hH2⟩ : ∃ z_, (homeF R (Z ++ [yi]) z) = z_ := ⟨_, rfl⟩
        rw [hH2] at hmo
        simp only [hH2] at HMM
        rw [hH.out] at hmo
        obtain ⟨pm, hpm2⟩ : ∃ z_, (panicF R (Z ++ [yi]) p) = z_ := ⟨_, rfl⟩
        rw [hpm2, hpn.out] at hpm
        simp only [hpm2] at PNM
        have hbz := hb.out.tr hq2
        have hq77 := Bl.rfl' w7
        clear hT hIT hTm hown7 hgrow7 hH2 hpm2 hq7
        have hq7 := Lib.hid hq77
        clear hq77
        replace hbz := Lib.hid hbz
        replace hq2 := Lib.hid hq2
        replace hY7 := Lib.hid hY7
        replace hmo := Lib.hid hmo
        replace hpm := Lib.hid hpm
        go_wp2_with fail
        with_reducible refine (PNM.out _ hq7.out).mono ?_
        rintro e wa ⟨rfl, hn⟩
        have hz1 := hbz.out.tr hn
        have hq21 := hq2.out.tr hn
        have hq71 := hq7.out.tr hn
        have hY71 := blk_bl hY7.out hn
        clear hbz hq2 hq7 hn hY7
        have hbz := Lib.hid hz1; have hq2 := Lib.hid hq21; have hq7 := Lib.hid hq71; have hY7 := Lib.hid hY71
        clear hz1 hq21 hq71 hY71
        cases pm with
        | true =>
          have hh := hpm.out rfl
          subst hh
          go_wp2_with fail
          with_reducible refine (PN.out _ hq2.out).mono ?_
          rintro e wb ⟨rfl, hn⟩
          have hz1 := hbz.out.tr hn
          have hq21 := hq2.out.tr hn
          have hq71 := hq7.out.tr hn
          have hY71 := blk_bl hY7.out hn
          clear hbz hq2 hq7 hn hY7
          have hbz := Lib.hid hz1; have hq2 := Lib.hid hq21; have hq7 := Lib.hid hq71; have hY7 := Lib.hid hY71
          clear hz1 hq21 hq71 hY71
          clear hpm
          have x0 := cell_at hY7.out 0
          have x2 := cell_at hY7.out 2
          simp only [List.getElem?_toArray, List.getElem?_cons_succ, List.getElem?_cons_zero] at x0 x2
          by_cases hzz : yz = z
          · have e1 : (yz != z) = false := by simp [hzz]
            have hge := hmo.out hzz
            have dge : decide (H2 ≥ H) = true := decide_eq_true hge
            have dge2 : decide (H ≤ H2) = true := decide_eq_true hge
            clear hzz hge
            go_wp2_with fail
            with_reducible refine (HMM.out _ hq7.out).mono ?_
            rintro e wa ⟨rfl, hn⟩
            have hz1 := hbz.out.tr hn
            have hq21 := hq2.out.tr hn
            clear hbz hq2 hn
            have hbz := Lib.hid hz1; have hq2 := Lib.hid hq21
            clear hz1 hq21 x0 x2
            go_wp2_with fail
            with_reducible refine (HM.out _ hq2.out).mono ?_
            rintro e wb ⟨rfl, hn⟩
            have hz1 := hbz.out.tr hn
            have hq21 := hq2.out.tr hn
            clear hbz hq2 hn
            have hbz := Lib.hid hz1; have hq2 := Lib.hid hq21
            clear hz1 hq21
            go_wp2_with fail
            with_reducible refine (LV.out _).mono ?_
            rintro e wh ⟨rfl, hn⟩
            go_wp2_with fail
            go_ret
            exact ⟨rfl, hbz.out.tr hn⟩
          · have e1 : (yz != z) = true := by simp [hzz]
            clear hzz
            go_wp2_with fail
            with_reducible refine (LV.out _).mono ?_
            rintro e wh ⟨rfl, hn⟩
            go_wp2_with fail
            go_ret
            exact ⟨rfl, hbz.out.tr hn⟩
        | false =>
          clear hpm
          have x0 := cell_at hY7.out 0
          have x2 := cell_at hY7.out 2
          simp only [List.getElem?_toArray, List.getElem?_cons_succ, List.getElem?_cons_zero] at x0 x2
          by_cases hzz : yz = z
          · have e1 : (yz != z) = false := by simp [hzz]
            have hge := hmo.out hzz
            have dge : decide (H2 ≥ H) = true := decide_eq_true hge
            have dge2 : decide (H ≤ H2) = true := decide_eq_true hge
            clear hzz hge
            go_wp2_with fail
            with_reducible refine (HMM.out _ hq7.out).mono ?_
            rintro e wa ⟨rfl, hn⟩
            have hz1 := hbz.out.tr hn
            have hq21 := hq2.out.tr hn
            clear hbz hq2 hn
            have hbz := Lib.hid hz1; have hq2 := Lib.hid hq21
            clear hz1 hq21 x0 x2
            go_wp2_with fail
            with_reducible refine (HM.out _ hq2.out).mono ?_
            rintro e wb ⟨rfl, hn⟩
            have hz1 := hbz.out.tr hn
            have hq21 := hq2.out.tr hn
            clear hbz hq2 hn
            have hbz := Lib.hid hz1; have hq2 := Lib.hid hq21
            clear hz1 hq21
            go_wp2_with fail
            with_reducible refine (LV.out _).mono ?_
            rintro e wh ⟨rfl, hn⟩
            go_wp2_with fail
            go_ret
            exact ⟨rfl, hbz.out.tr hn⟩
          · have e1 : (yz != z) = true := by simp [hzz]
            clear hzz
            go_wp2_with fail
            with_reducible refine (LV.out _).mono ?_
            rintro e wh ⟨rfl, hn⟩
            go_wp2_with fail
            go_ret
            exact ⟨rfl, hbz.out.tr hn⟩
      · have hHeld' := hHeld
        try dsimp only at hHeld'
        go_split_ands
        go_simp
        refine hK.out _ _ ?_ (fun hHeld => ?_)
        · exact (cell_at hY2.out 0)
        clear hK K
        try simp only [List.getElem_toArray, List.getElem_cons_succ, List.getElem_cons_zero, Act.put, List.setIfInBounds_toArray, List.set_cons_zero, List.set_cons_succ]
        have hown0 := own2
        have hsz : base ≤ ((W0.drew.alloc (.cells #[] 3)).alloc (.cells #[I yi] 3)).heap.size := by have := zs2.out; omega
        refine wpAnyH_ready (rs := [2]) (by kernel_rfl) (by simp) ?_
        refine AllReadyH.cons rfl (fun K hK => ?_) AllReadyH.nil
        refine step_append_feed rfl (.tmp 63) (.tmp 64) 22 rfl base 3 iu (I 0) 1 8 Try.underlying22 hiu zu0 zu1 zu2 rfl (by decide) _ 0 [] (by first | rfl | simp [Act.eval, Act.put]) hown0.out _ Z.length (Z.map I) (F2.out) (by intro u hu; obtain ⟨x, -, rfl⟩ := List.mem_map.1 hu; rfl) (by first | rfl | simp [Act.eval, Act.put]) (by omega) (by omega) hsz ?_
        intro v5 w5 hown5 hgrow5
        have hg5 : ((W0.drew.alloc (.cells #[] 3)).alloc (.cells #[I yi] 3)).heap.size ≤ w5.heap.size := hgrow5.size
        have hown5 : w5.ownsRow base 3 1 v5 Z.length (Z.map I) := by have h := hown5; rw [Nat.zero_add, List.nil_append] at h; exact h
        have hY6 := blk_row hY2.out hgrow5 (fun e => by have := (own2.out.lt _ e).1; omega)
        have hb6 := q2.out.grown hgrow5 (fun k hk => by have := (own2.out.lt k hk).1; omega)
        have hzs := zs1.out
        have hfd := feed_blk (blk_row C2.out hgrow5 (by simp [Value.ownBlock] <;> omega))
        have hown6 := hown5
        have hbs6 : base ≤ w5.heap.size := by have := zs2.out; omega
        clear hown5 hgrow5
        replace hY6 := Lib.hid hY6
        replace hown6 := Lib.hid hown6
        replace hb6 := Lib.hid hb6
        replace hfd := Lib.hid hfd
        refine hK.out _ _ ?_ (fun hHeld => ?_)
        · exact (cell_at hY6.out 0)
        clear hK K
        try simp only [List.getElem_toArray, List.getElem_cons_succ, List.getElem_cons_zero, Act.put, List.setIfInBounds_toArray, List.set_cons_zero, List.set_cons_succ]
        refine wpAnyH_ready (rs := [6]) (by kernel_rfl) (by simp) ?_
        refine AllReadyH.cons rfl (fun K hK => ?_) AllReadyH.nil
        refine step_append_feed rfl (.tmp 65) (.tmp 68) 22 rfl base 3 iu (I 0) 1 8 Try.underlying22 hiu zu0 zu1 zu2 rfl (by decide) _ Z.length (Z.map I) (by first | rfl | simp [Act.eval, Act.put]) hown6.out _ 1 [I yi] hfd.out (by intro u hu; simp at hu; subst hu; rfl) (by first | rfl | simp [Act.eval, Act.put]) (by omega) (by omega) hbs6 ?_
        intro v7 w7 hown7 hgrow7
        have hY7 := blk_row hY6.out hgrow7 (fun e => by have := (hown6.out.lt _ e).1; omega)
        have hq7 := hb6.out.grown hgrow7 (fun k hk => by have := (hown6.out.lt k hk).1; omega)
        clear hown6 hfd hY6 hb6 hbs6
        replace hq7 := Lib.hid hq7
        refine hK.out _ _ ?_ (fun hHeld => ?_)
        · exact (cell_at hY7 0)
        clear hK K
        try simp only [List.getElem_toArray, List.getElem_cons_succ, List.getElem_cons_zero, Act.put, List.setIfInBounds_toArray, List.set_cons_zero, List.set_cons_succ]
        refine wpAnyH_take (i := 7) (v := ?v7_5) rfl (by kernel_rfl) (by kernel_rfl) (by kernel_rfl) (fun _ _ _ h => h) (Or.inl ⟨by rfl, ?y7_5⟩) hHeld ?r7_5
        case y7_5 => (intro w hSw; (try dsimp only at hSw); go_split_ands; go_simp; try with_reducible rfl)
        try simp only [List.getElem_toArray, List.getElem_cons_succ, List.getElem_cons_zero, Act.put, List.setIfInBounds_toArray, List.set_cons_zero, List.set_cons_succ]
        refine wpAnyH_done (by kernel_rfl) ?_ _
        have hT : w7.ownsRow base 3 1 v7 (Z ++ [yi]).length ((Z ++ [yi]).map I) := by rw [List.length_append, List.map_append]; exact hown7
        have hIT := ints_own hT
        have hTm : (Z ++ [yi]).length ≤ maxLen := by rw [show (Z ++ [yi]).length = Z.length + 1 by simp]; unfold maxLen; omega
        have hq2 := hq7.out
        have HMM := Lib.hid (fun w' (hb : Bl w7 w') => home_any _ R _ (Z ++ [yi]) z w' (hE.out w' (hq2.tr hb)) (Rd.below hIT hb) hTm)
        have PNM := Lib.hid (fun w' (hb : Bl w7 w') => panic_any _ R _ (Z ++ [yi]) p w' (hE.out w' (hq2.tr hb)) (Rd.below hIT hb) hTm p0 (by omega))
        have hpm := panic_more R Z p yi
        have hmo := fun h => home_more hR.two Z z ⟨yi, ys, yz⟩ hyR.out h
        simp only at hmo
        obtain ⟨H2, hH2⟩ : ∃ z_, (homeF R (Z ++ [yi]) z) = z_ := ⟨_, rfl⟩
        rw [hH2] at hmo
        simp only [hH2] at HMM
        rw [hH.out] at hmo
        obtain ⟨pm, hpm2⟩ : ∃ z_, (panicF R (Z ++ [yi]) p) = z_ := ⟨_, rfl⟩
        rw [hpm2, hpn.out] at hpm
        simp only [hpm2] at PNM
        have hbz := hb.out.tr hq2
        have hq77 := Bl.rfl' w7
        clear hT hIT hTm hown7 hgrow7 hH2 hpm2 hq7
        have hq7 := Lib.hid hq77
        clear hq77
        replace hbz := Lib.hid hbz
        replace hq2 := Lib.hid hq2
        replace hY7 := Lib.hid hY7
        replace hmo := Lib.hid hmo
        replace hpm := Lib.hid hpm
        go_wp2_with fail
        with_reducible refine (PNM.out _ hq7.out).mono ?_
        rintro e wa ⟨rfl, hn⟩
        have hz1 := hbz.out.tr hn
        have hq21 := hq2.out.tr hn
        have hq71 := hq7.out.tr hn
        have hY71 := blk_bl hY7.out hn
        clear hbz hq2 hq7 hn hY7
        have hbz := Lib.hid hz1; have hq2 := Lib.hid hq21; have hq7 := Lib.hid hq71; have hY7 := Lib.hid hY71
        clear hz1 hq21 hq71 hY71
        cases pm with
        | true =>
          have hh := hpm.out rfl
          subst hh
          go_wp2_with fail
          with_reducible refine (PN.out _ hq2.out).mono ?_
          rintro e wb ⟨rfl, hn⟩
          have hz1 := hbz.out.tr hn
          have hq21 := hq2.out.tr hn
          have hq71 := hq7.out.tr hn
          have hY71 := blk_bl hY7.out hn
          clear hbz hq2 hq7 hn hY7
          have hbz := Lib.hid hz1; have hq2 := Lib.hid hq21; have hq7 := Lib.hid hq71; have hY7 := Lib.hid hY71
          clear hz1 hq21 hq71 hY71
          clear hpm
          have x0 := cell_at hY7.out 0
          have x2 := cell_at hY7.out 2
          simp only [List.getElem?_toArray, List.getElem?_cons_succ, List.getElem?_cons_zero] at x0 x2
          by_cases hzz : yz = z
          · have e1 : (yz != z) = false := by simp [hzz]
            have hge := hmo.out hzz
            have dge : decide (H2 ≥ H) = true := decide_eq_true hge
            have dge2 : decide (H ≤ H2) = true := decide_eq_true hge
            clear hzz hge
            go_wp2_with fail
            with_reducible refine (HMM.out _ hq7.out).mono ?_
            rintro e wa ⟨rfl, hn⟩
            have hz1 := hbz.out.tr hn
            have hq21 := hq2.out.tr hn
            clear hbz hq2 hn
            have hbz := Lib.hid hz1; have hq2 := Lib.hid hq21
            clear hz1 hq21 x0 x2
            go_wp2_with fail
            with_reducible refine (HM.out _ hq2.out).mono ?_
            rintro e wb ⟨rfl, hn⟩
            have hz1 := hbz.out.tr hn
            have hq21 := hq2.out.tr hn
            clear hbz hq2 hn
            have hbz := Lib.hid hz1; have hq2 := Lib.hid hq21
            clear hz1 hq21
            go_wp2_with fail
            with_reducible refine (LV.out _).mono ?_
            rintro e wh ⟨rfl, hn⟩
            go_wp2_with fail
            go_ret
            exact ⟨rfl, hbz.out.tr hn⟩
          · have e1 : (yz != z) = true := by simp [hzz]
            clear hzz
            go_wp2_with fail
            with_reducible refine (LV.out _).mono ?_
            rintro e wh ⟨rfl, hn⟩
            go_wp2_with fail
            go_ret
            exact ⟨rfl, hbz.out.tr hn⟩
        | false =>
          clear hpm
          have x0 := cell_at hY7.out 0
          have x2 := cell_at hY7.out 2
          simp only [List.getElem?_toArray, List.getElem?_cons_succ, List.getElem?_cons_zero] at x0 x2
          by_cases hzz : yz = z
          · have e1 : (yz != z) = false := by simp [hzz]
            have hge := hmo.out hzz
            have dge : decide (H2 ≥ H) = true := decide_eq_true hge
            have dge2 : decide (H ≤ H2) = true := decide_eq_true hge
            clear hzz hge
            go_wp2_with fail
            with_reducible refine (HMM.out _ hq7.out).mono ?_
            rintro e wa ⟨rfl, hn⟩
            have hz1 := hbz.out.tr hn
            have hq21 := hq2.out.tr hn
            clear hbz hq2 hn
            have hbz := Lib.hid hz1; have hq2 := Lib.hid hq21
            clear hz1 hq21 x0 x2
            go_wp2_with fail
            with_reducible refine (HM.out _ hq2.out).mono ?_
            rintro e wb ⟨rfl, hn⟩
            have hz1 := hbz.out.tr hn
            have hq21 := hq2.out.tr hn
            clear hbz hq2 hn
            have hbz := Lib.hid hz1; have hq2 := Lib.hid hq21
            clear hz1 hq21
            go_wp2_with fail
            with_reducible refine (LV.out _).mono ?_
            rintro e wh ⟨rfl, hn⟩
            go_wp2_with fail
            go_ret
            exact ⟨rfl, hbz.out.tr hn⟩
          · have e1 : (yz != z) = true := by simp [hzz]
            clear hzz
            go_wp2_with fail
            with_reducible refine (LV.out _).mono ?_
            rintro e wh ⟨rfl, hn⟩
            go_wp2_with fail
            go_ret
            exact ⟨rfl, hbz.out.tr hn⟩
    · have hHeld' := hHeld
      try dsimp only at hHeld'
      go_split_ands
      go_simp
      refine hK.out _ _ ?_ (fun hHeld => ?_)
      · exact (cell_at hX1.out 0)
      clear hK K
      try simp only [List.getElem_toArray, List.getElem_cons_succ, List.getElem_cons_zero, Act.put, List.setIfInBounds_toArray, List.set_cons_zero, List.set_cons_succ]
      refine wpAnyH_ready (rs := [0]) (by kernel_rfl) (by simp) ?_
      refine AllReadyH.cons rfl (fun K hK => ?_) AllReadyH.nil
      have hHeld' := hHeld
      try dsimp only at hHeld'
      go_split_ands
      go_simp
      refine hK.out _ _ ?_ (fun hHeld => ?_)
      · exact (cell_at hX2.out 0)
      clear hK K
      try simp only [List.getElem_toArray, List.getElem_cons_succ, List.getElem_cons_zero, Act.put, List.setIfInBounds_toArray, List.set_cons_zero, List.set_cons_succ]
      have hown0 := own3
      have hsz : base ≤ ((W0.drew.alloc (.cells #[I yi] 3)).alloc (.cells #[] 3)).heap.size := by have := zs3.out; omega
      refine wpAnyH_ready (rs := [2]) (by kernel_rfl) (by simp) ?_
      refine AllReadyH.cons rfl (fun K hK => ?_) AllReadyH.nil
      refine step_append_feed rfl (.tmp 63) (.tmp 64) 22 rfl base 3 iu (I 0) 1 8 Try.underlying22 hiu zu0 zu1 zu2 rfl (by decide) _ 0 [] (by first | rfl | simp [Act.eval, Act.put]) hown0.out _ Z.length (Z.map I) (F3.out) (by intro u hu; obtain ⟨x, -, rfl⟩ := List.mem_map.1 hu; rfl) (by first | rfl | simp [Act.eval, Act.put]) (by omega) (by omega) hsz ?_
      intro v5 w5 hown5 hgrow5
      have hg5 : ((W0.drew.alloc (.cells #[I yi] 3)).alloc (.cells #[] 3)).heap.size ≤ w5.heap.size := hgrow5.size
      have hown5 : w5.ownsRow base 3 1 v5 Z.length (Z.map I) := by have h := hown5; rw [Nat.zero_add, List.nil_append] at h; exact h
      have hY6 := blk_row hX2.out hgrow5 (fun e => by have := (own3.out.lt _ e).1; omega)
      have hb6 := q3.out.grown hgrow5 (fun k hk => by have := (own3.out.lt k hk).1; omega)
      have hzs := zs4.out
      have hds := hDs.out
      have hfd := feed_blk (blk_row C3.out hgrow5 (by simp [Value.ownBlock] <;> omega))
      have hown6 := hown5
      have hbs6 : base ≤ w5.heap.size := by have := zs3.out; omega
      clear hown5 hgrow5
      replace hY6 := Lib.hid hY6
      replace hown6 := Lib.hid hown6
      replace hb6 := Lib.hid hb6
      replace hfd := Lib.hid hfd
      refine hK.out _ _ ?_ (fun hHeld => ?_)
      · exact (cell_at hY6.out 0)
      clear hK K
      try simp only [List.getElem_toArray, List.getElem_cons_succ, List.getElem_cons_zero, Act.put, List.setIfInBounds_toArray, List.set_cons_zero, List.set_cons_succ]
      refine wpAnyH_ready (rs := [6]) (by kernel_rfl) (by simp) ?_
      refine AllReadyH.cons rfl (fun K hK => ?_) AllReadyH.nil
      refine step_append_feed rfl (.tmp 65) (.tmp 68) 22 rfl base 3 iu (I 0) 1 8 Try.underlying22 hiu zu0 zu1 zu2 rfl (by decide) _ Z.length (Z.map I) (by first | rfl | simp [Act.eval, Act.put]) hown6.out _ 1 [I yi] hfd.out (by intro u hu; simp at hu; subst hu; rfl) (by first | rfl | simp [Act.eval, Act.put]) (by omega) (by omega) hbs6 ?_
      intro v7 w7 hown7 hgrow7
      have hY7 := blk_row hY6.out hgrow7 (fun e => by have := (hown6.out.lt _ e).1; omega)
      have hq7 := hb6.out.grown hgrow7 (fun k hk => by have := (hown6.out.lt k hk).1; omega)
      clear hown6 hfd hY6 hb6 hbs6
      replace hq7 := Lib.hid hq7
      refine hK.out _ _ ?_ (fun hHeld => ?_)
      · exact (cell_at hY7 0)
      clear hK K
      try simp only [List.getElem_toArray, List.getElem_cons_succ, List.getElem_cons_zero, Act.put, List.setIfInBounds_toArray, List.set_cons_zero, List.set_cons_succ]
      refine wpAnyH_take (i := 7) (v := ?v7_6) rfl (by kernel_rfl) (by kernel_rfl) (by kernel_rfl) (fun _ _ _ h => h) (Or.inl ⟨by rfl, ?y7_6⟩) hHeld ?r7_6
      case y7_6 => (intro w hSw; (try dsimp only at hSw); go_split_ands; go_simp; try with_reducible rfl)
      try simp only [List.getElem_toArray, List.getElem_cons_succ, List.getElem_cons_zero, Act.put, List.setIfInBounds_toArray, List.set_cons_zero, List.set_cons_succ]
      refine wpAnyH_done (by kernel_rfl) ?_ _
      have hT : w7.ownsRow base 3 1 v7 (Z ++ [yi]).length ((Z ++ [yi]).map I) := by rw [List.length_append, List.map_append]; exact hown7
      have hIT := ints_own hT
      have hTm : (Z ++ [yi]).length ≤ maxLen := by rw [show (Z ++ [yi]).length = Z.length + 1 by simp]; unfold maxLen; omega
      have hq2 := hq7.out
      have HMM := Lib.hid (fun w' (hb : Bl w7 w') => home_any _ R _ (Z ++ [yi]) z w' (hE.out w' (hq2.tr hb)) (Rd.below hIT hb) hTm)
      have PNM := Lib.hid (fun w' (hb : Bl w7 w') => panic_any _ R _ (Z ++ [yi]) p w' (hE.out w' (hq2.tr hb)) (Rd.below hIT hb) hTm p0 (by omega))
      have hpm := panic_more R Z p yi
      have hmo := fun h => home_more hR.two Z z ⟨yi, ys, yz⟩ hyR.out h
      simp only at hmo
      obtain ⟨H2, hH2⟩ : ∃ z_, (homeF R (Z ++ [yi]) z) = z_ := ⟨_, rfl⟩
      rw [hH2] at hmo
      simp only [hH2] at HMM
      rw [hH.out] at hmo
      obtain ⟨pm, hpm2⟩ : ∃ z_, (panicF R (Z ++ [yi]) p) = z_ := ⟨_, rfl⟩
      rw [hpm2, hpn.out] at hpm
      simp only [hpm2] at PNM
      have hbz := hb.out.tr hq2
      have hq77 := Bl.rfl' w7
      clear hT hIT hTm hown7 hgrow7 hH2 hpm2 hq7
      have hq7 := Lib.hid hq77
      clear hq77
      replace hbz := Lib.hid hbz
      replace hq2 := Lib.hid hq2
      replace hY7 := Lib.hid hY7
      replace hmo := Lib.hid hmo
      replace hpm := Lib.hid hpm
      go_wp2_with fail
      with_reducible refine (PNM.out _ hq7.out).mono ?_
      rintro e wa ⟨rfl, hn⟩
      have hz1 := hbz.out.tr hn
      have hq21 := hq2.out.tr hn
      have hq71 := hq7.out.tr hn
      have hY71 := blk_bl hY7.out hn
      clear hbz hq2 hq7 hn hY7
      have hbz := Lib.hid hz1; have hq2 := Lib.hid hq21; have hq7 := Lib.hid hq71; have hY7 := Lib.hid hY71
      clear hz1 hq21 hq71 hY71
      cases pm with
      | true =>
        have hh := hpm.out rfl
        subst hh
        go_wp2_with fail
        with_reducible refine (PN.out _ hq2.out).mono ?_
        rintro e wb ⟨rfl, hn⟩
        have hz1 := hbz.out.tr hn
        have hq21 := hq2.out.tr hn
        have hq71 := hq7.out.tr hn
        have hY71 := blk_bl hY7.out hn
        clear hbz hq2 hq7 hn hY7
        have hbz := Lib.hid hz1; have hq2 := Lib.hid hq21; have hq7 := Lib.hid hq71; have hY7 := Lib.hid hY71
        clear hz1 hq21 hq71 hY71
        clear hpm
        have x0 := cell_at hY7.out 0
        have x2 := cell_at hY7.out 2
        simp only [List.getElem?_toArray, List.getElem?_cons_succ, List.getElem?_cons_zero] at x0 x2
        by_cases hzz : yz = z
        · have e1 : (yz != z) = false := by simp [hzz]
          have hge := hmo.out hzz
          have dge : decide (H2 ≥ H) = true := decide_eq_true hge
          have dge2 : decide (H ≤ H2) = true := decide_eq_true hge
          clear hzz hge
          go_wp2_with fail
          with_reducible refine (HMM.out _ hq7.out).mono ?_
          rintro e wa ⟨rfl, hn⟩
          have hz1 := hbz.out.tr hn
          have hq21 := hq2.out.tr hn
          clear hbz hq2 hn
          have hbz := Lib.hid hz1; have hq2 := Lib.hid hq21
          clear hz1 hq21 x0 x2
          go_wp2_with fail
          with_reducible refine (HM.out _ hq2.out).mono ?_
          rintro e wb ⟨rfl, hn⟩
          have hz1 := hbz.out.tr hn
          have hq21 := hq2.out.tr hn
          clear hbz hq2 hn
          have hbz := Lib.hid hz1; have hq2 := Lib.hid hq21
          clear hz1 hq21
          go_wp2_with fail
          with_reducible refine (LV.out _).mono ?_
          rintro e wh ⟨rfl, hn⟩
          go_wp2_with fail
          go_ret
          exact ⟨rfl, hbz.out.tr hn⟩
        · have e1 : (yz != z) = true := by simp [hzz]
          clear hzz
          go_wp2_with fail
          with_reducible refine (LV.out _).mono ?_
          rintro e wh ⟨rfl, hn⟩
          go_wp2_with fail
          go_ret
          exact ⟨rfl, hbz.out.tr hn⟩
      | false =>
        clear hpm
        have x0 := cell_at hY7.out 0
        have x2 := cell_at hY7.out 2
        simp only [List.getElem?_toArray, List.getElem?_cons_succ, List.getElem?_cons_zero] at x0 x2
        by_cases hzz : yz = z
        · have e1 : (yz != z) = false := by simp [hzz]
          have hge := hmo.out hzz
          have dge : decide (H2 ≥ H) = true := decide_eq_true hge
          have dge2 : decide (H ≤ H2) = true := decide_eq_true hge
          clear hzz hge
          go_wp2_with fail
          with_reducible refine (HMM.out _ hq7.out).mono ?_
          rintro e wa ⟨rfl, hn⟩
          have hz1 := hbz.out.tr hn
          have hq21 := hq2.out.tr hn
          clear hbz hq2 hn
          have hbz := Lib.hid hz1; have hq2 := Lib.hid hq21
          clear hz1 hq21 x0 x2
          go_wp2_with fail
          with_reducible refine (HM.out _ hq2.out).mono ?_
          rintro e wb ⟨rfl, hn⟩
          have hz1 := hbz.out.tr hn
          have hq21 := hq2.out.tr hn
          clear hbz hq2 hn
          have hbz := Lib.hid hz1; have hq2 := Lib.hid hq21
          clear hz1 hq21
          go_wp2_with fail
          with_reducible refine (LV.out _).mono ?_
          rintro e wh ⟨rfl, hn⟩
          go_wp2_with fail
          go_ret
          exact ⟨rfl, hbz.out.tr hn⟩
        · have e1 : (yz != z) = true := by simp [hzz]
          clear hzz
          go_wp2_with fail
          with_reducible refine (LV.out _).mono ?_
          rintro e wh ⟨rfl, hn⟩
          go_wp2_with fail
          go_ret
          exact ⟨rfl, hbz.out.tr hn⟩
end Go.Proofs.Ytjajhebnafaflaa.zonesMore
