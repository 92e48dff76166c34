/-
  LinkOn is true for every input: which fault of a kind there is, of a node, at a tick, and when there is none any more, is the document's. No condition.
-/
import Derived.Test.YtndipeipcodidaaLinK
namespace Go.Proofs.Ytndipeipcodidaa.linkOn
open Go.ChangeShapes Go.WideShapes Go.ChangeAt Go.RowKit
open Go.Proofs.Ytndipeipcodidaa.link
set_option linter.unusedVariables false
set_option linter.unusedSimpArgs false

theorem infoI : (Try.prog.info? 3).map (fun i => (i.zero, i.size, i.bytes)) = some (some (I 0), 1, 8) := by kernel_rfl

set_option maxHeartbeats 16000000 in
set_option maxRecDepth 20000 in
theorem walk {w : World} (v0 : Value) (z0 : List Int) (hv0 : IntsAt w v0 z0) (hz0 : i64ok z0) (hm0 : z0.length ≤ maxLen) (kd : Int) (l1 : -9223372036854775808 ≤ kd) (u1 : kd ≤ 9223372036854775807) (nd : Int) (l2 : -9223372036854775808 ≤ nd) (u2 : nd ≤ 9223372036854775807) (nw : Int) (l3 : -9223372036854775808 ≤ nw) (u3 : nw ≤ 9223372036854775807) :
    Calls Try.prog 4 #[v0, .int .i64 kd, .int .i64 nd, .int .i64 nw] w fun e w' => e = .returned (.bool true) ∧ Bl w w' := by
  have A0 := Lib.hid (fun w => around_any nw 321 w l3 u3 (by omega) (by omega))
  have A1 := Lib.hid (fun w => around_any kd 12 w l1 u1 (by omega) (by omega))
  have SA := Lib.hid (fun w => some_any nd w l2 u2)
  have FS := Lib.hid (faults_any z0 v0 w hv0 hz0 hm0)
  have LV := Lib.hid lives_any
  clear hv0 hz0 hm0
  go_enter Try.func4, Try.ntmps4
  go_wp2_with fail
  refine FS.out.mono ?_
  rintro e w1 ⟨aF, cF, gF, F, rfl, hcF, hokF, hgF, hF, hb1⟩
  obtain ⟨hFl, hFF⟩ := hokF
  replace hFF := Lib.hid hFF; replace hb1 := Lib.hid hb1
  clear FS
  go_wp2_with fail
  refine (new_ls w1 1 gF aF cF F hF (by omega) hcF).mono ?_
  rintro e w2 ⟨p, rfl, hp, hL, hb2⟩
  replace hF := Lib.hid (hF.bl hb2)
  replace hb1 := Lib.hid (hb1.out.tr hb2); replace hL := Lib.hid hL
  clear hb2 hp hgF
  go_wp2_with fail
  refine (A0.out _).mono ?_
  rintro e w' ⟨rfl, rfl⟩
  obtain ⟨t, ht⟩ : ∃ z, around nw 321 = z := ⟨_, rfl⟩
  rw [ht]
  go_wp2_with fail
  refine (A1.out _).mono ?_
  rintro e w' ⟨rfl, rfl⟩
  obtain ⟨k, hk⟩ : ∃ z, around kd 12 = z := ⟨_, rfl⟩
  rw [hk]
  go_wp2_with fail
  refine (SA.out _).mono ?_
  rintro e w' ⟨⟨s, rfl, s0, s1⟩, rfl⟩
  clear A0 A1 ht hk SA
  obtain ⟨N, hN⟩ : ∃ z, F.length = z := ⟨_, rfl⟩
  have hN8 : N ≤ 8 := by omega
  replace hF := Lib.hid hF.out
  have hlit := World.ownsRow_lit (base := w2.heap.size) (e := 3) (size := 1) w2 #[I nd, I s] 2 (Nat.le_refl _) (by decide) (by simp)
  have hbl := (Bl.rfl' w2).al (.cells #[I nd, I s] 3)
  by_cases h0 : 0 < N
  · have d1 : decide (N > 0) = true := decide_eq_true h0
    have B0 := Lib.hid (fun w => around_any nd N w l2 u2 (by omega) (by omega))
    have b0 := around_lo nd N (by omega); have b1 := around_hi nd N (by omega)
    obtain ⟨q', hq⟩ : ∃ z, around nd N = z := ⟨_, rfl⟩
    rw [hq] at B0 b0 b1
    obtain ⟨q, rfl⟩ : ∃ q : Nat, (q : Int) = q' := ⟨q'.toNat, by omega⟩
    clear hq
    obtain ⟨iu, hiu, zu0, zu1, zu2⟩ := info_parts infoI
    have hF0 := hF; have hw0 := hb1; have hL0 := hL; have hbk := hbl
    have hF := hF.out.bl hbl
    obtain ⟨rfl, q0, q1, q2, q3, q4, q5⟩ := hF.c q (by omega)
    obtain ⟨x, hx⟩ : ∃ z, F.getD q fl0 = z := ⟨_, rfl⟩
    rw [hx] at q0 q1 q2 q3 q4 q5
    obtain ⟨xk, xf, xt, xa, xb, xn⟩ := x
    simp only at q0 q1 q2 q3 q4 q5
    have hb1 := hb1.out.tr hbl
    have hL := hL.out.bl hbl
    clear hx hbl
    replace hF := Lib.hid hF; replace hb1 := Lib.hid hb1; replace hL := Lib.hid hL; replace hbk := Lib.hid hbk
    go_wp2_with fail
    refine (B0.out _).mono ?_
    rintro e w3 ⟨rfl, rfl⟩
    obtain ⟨w4, hw4⟩ : ∃ z, w2.alloc (.cells #[I nd, I s] 3) = z := ⟨_, rfl⟩
    have hs4 : w2.heap.size < w4.heap.size := by rw [← hw4]; simp
    have hw4' : w2.alloc (.cells #[Value.int IntKind.i64 nd, I s] 3) = w4 := hw4
    rw [hw4] at q0 q1 q2 q3 q4 q5 hF hb1 hL hlit hbk
    rw [hw4']
    clear hw4 hw4'
    have hal := (Bl.rfl' w4).al (.cells #[I xk, I xf, I xt, I xa, I xb, I xn] 40)
    replace hF := Lib.hid (hF.out.bl hal); replace hb1 := Lib.hid (hb1.out.tr hal); replace hL := Lib.hid (hL.out.bl hal)
    have hown1 := Lib.hid (own_below hlit hal)
    replace hbk := Lib.hid (hbk.out.tr hal)
    have hlt0 := Lib.hid hlit.lt
    have hsz4 : (w4.alloc (.cells #[I xk, I xf, I xt, I xa, I xb, I xn] 40)).heap.size = w4.heap.size + 1 := by simp
    clear hal hlit
    obtain ⟨nw0, hnw0⟩ : ∃ z, Value.slice (some ⟨w2.heap.size, 0, none⟩) 2 2 = z := ⟨_, rfl⟩
    rw [hnw0] at hown1 hlt0
    simp only [hnw0]
    clear hnw0
    have hbs : w2.heap.size ≤ (w4.alloc (.cells #[I xk, I xf, I xt, I xa, I xb, I xn] 40)).heap.size := by omega
    go_wp2_with (at_builtin; refine wpList_append_one (wr := w4.alloc (.cells #[I xk, I xf, I xt, I xa, I xb, I xn] 40)) rfl (.tmp 42) (.tmp 45) 22 rfl w2.heap.size 3 iu (I 0) 8 Try.underlying22 hiu zu0 zu1 zu2 rfl nw0 2 [I nd, I s] rfl hown1.out (I xa) 3 rfl 1 (by rw [hsz4]; rfl) (by omega) (by omega) hbs ?_)
    intro b' cap' w5 hown' hgrow
    have hb25 := hbk.out.grown hgrow (fun k hk => (hown1.out.lt k hk).1)
    have hv5 : w5.cell? ⟨w4.heap.size, 0, none⟩ = some (I xk) := by
      have hne : nw0.ownBlock ≠ some w4.heap.size := fun e => by have := (hlt0.out _ e).2; omega
      have := hgrow.block w4.heap.size (by rw [hsz4]; omega) (fun e => hne e.symm)
      have h5 : w5.heap[w4.heap.size]? = some (.cells #[I xk, I xf, I xt, I xa, I xb, I xn] 40 (0, 0)) := by rw [this]; exact heap_alloc_new _ _
      rw [cell_at h5]; rfl
    have hF := hF0.out.bl hb25
    have hb1 := hw0.out.tr hb25
    have hL := hL0.out.bl hb25
    obtain ⟨nv, hnv⟩ : ∃ z, Value.slice (some ⟨b', 0, none⟩) (2 + 1) cap' = z := ⟨_, rfl⟩
    rw [hnv] at hown' ⊢
    have hNd : w5.ownsRow w2.heap.size 3 1 nv 3 ([nd, s, xa].map I) := hown'
    clear hown' hnv hgrow hb25 hown1 q0 q1 q2 q3 q4 q5
    replace hF := Lib.hid hF; replace hb1 := Lib.hid hb1; replace hL := Lib.hid hL; replace hNd := Lib.hid hNd
    go_wp2_with fail
    replace hF := hF.out; replace hb1 := hb1.out; replace hL := hL.out; replace hNd := hNd.out
    clear hv5
    replace hF := Lib.hid hF; replace hb1 := Lib.hid hb1; replace hL := Lib.hid hL; replace hNd := Lib.hid hNd
    go_loopw [15] (fun i wr => ∃ j : Nat, j ≤ 3 ∧ i = I j ∧ wr.ownsRow w2.heap.size 3 1 nv 3 ([nd, s, xa].map I) ∧ LS wr p 1 F (List.replicate 40 0) ∧ FRow wr gF (some ⟨gF, 0, none⟩) F ∧ Bl w wr) (fun i _ => 3 - (intOf i).toNat)
    case atStart => exact ⟨0, by omega, rfl, hNd.out, hL.out, hF.out, hb1.out⟩
    case round =>
      obtain ⟨j, hjn, rfl, hOr, hLr, hFr, hbr⟩ := hrel
      clear hNd hL hF hb1
      by_cases hlt : j < 3
      · obtain ⟨y, hy⟩ : ∃ z, [nd, s, xa].getD j 0 = z := ⟨_, rfl⟩
        obtain ⟨a5, g5, c5, cur5, rfl, hb5, R5⟩ := own_blk hOr (by decide)
        have r0 : wr.cell? ⟨g5, j, none⟩ = some (I y) := by
          obtain ⟨h1, h2, -, h4⟩ := R5 (by omega)
          rw [cell_at h2, h4 j (by omega), List.getElem?_map, ← hy, List.getD_eq_getElem?_getD, List.getElem?_eq_getElem (by simpa using hlt)]
          rfl
        obtain ⟨rfl, hg5, -⟩ := R5 (by omega)
        have hrd : ∀ w', Bl wr w' → w'.cell? ⟨g5, j, none⟩ = some (I y) := fun w' hb => by
          rw [cell_at (var_bl hg5 hb), ← cell_at hg5]; exact r0
        obtain ⟨x, b, hxb⟩ : ∃ x b, onM F xk y t = .tuple #[fv x, .bool b] := by
          unfold onM; split <;> exact ⟨_, _, rfl⟩
        have O1 := on_any wr p 1 F (List.replicate 40 0) xk y t hLr (by omega)
        rw [hxb] at O1
        replace O1 := Lib.hid O1; replace hLr := Lib.hid hLr; replace hFr := Lib.hid hFr; replace hbr := Lib.hid hbr; replace hOr := Lib.hid hOr
        replace hrd := Lib.hid hrd; replace hxb := Lib.hid hxb
        clear R5 hy hg5
        go_wp2_with fail
        refine O1.out.mono ?_
        rintro e w5 ⟨rfl, hb6⟩
        obtain ⟨yk, yf, yt, ya, yb, yn⟩ := x
        have hbl5 := hb6.al (.cells #[I yk, I yf, I yt, I ya, I yb, I yn] 40)
        have hv5 := heap_alloc_new w5 (.cells #[I yk, I yf, I yt, I ya, I yb, I yn] 40)
        have r5 := hrd.out _ hbl5
        have O2 := onR_any (w5.alloc (.cells #[I yk, I yf, I yt, I ya, I yb, I yn] 40)) gF (some ⟨gF, 0, none⟩) cF F xk y t (hFr.out.bl hbl5) (by omega)
        rw [hxb.out, hN] at O2
        replace O2 := Lib.hid O2; replace hbl5 := Lib.hid hbl5; replace hv5 := Lib.hid hv5
        clear O1 hb6 hxb
        go_wp2_with fail
        refine O2.out.mono ?_
        rintro e w7 ⟨rfl, hb7⟩
        have hv7 := var_bl hv5.out hb7
        have hbl7 := (hbl5.out.tr hb7).al (.cells #[I yk, I yf, I yt, I ya, I yb, I yn] 40)
        have hv8 := var_bl hv7 ((Bl.rfl' w7).al (.cells #[I yk, I yf, I yt, I ya, I yb, I yn] 40))
        have p0 := cell_at hv8 0; have p1 := cell_at hv8 1; have p2 := cell_at hv8 2; have p3 := cell_at hv8 3; have p4 := cell_at hv8 4; have p5 := cell_at hv8 5
        simp only [List.getElem?_toArray, List.getElem?_cons_succ, List.getElem?_cons_zero] at p0 p1 p2 p3 p4 p5
        have hlt5 : w5.heap.size < w7.heap.size := lt_of_block hv7
        replace hbl7 := Lib.hid hbl7
        clear O2 hv5 hbl5 hv7 hv8 hb7 r5 r0
        go_wp2_with fail
        go_roundw
        case rel => exact ⟨j + 1, by omega, by go_num, own_below hOr.out hbl7.out, hLr.out.bl hbl7.out, hFr.out.bl hbl7.out, hbr.out.tr hbl7.out⟩
        case measure => simp [intOf]; omega
      · obtain rfl : j = 3 := by omega
        have E1 := end_ls wr p 1 F (List.replicate 40 0) hLr (by omega)
        have E2 := fun w' hb => endR_any w' gF (some ⟨gF, 0, none⟩) cF F (hFr.bl hb) (by omega)
        obtain ⟨en, hen⟩ : ∃ z, endTo F F.length = z := ⟨_, rfl⟩
        rw [hN] at hen E1
        rw [hen] at E1
        simp only [hN, hen] at E2
        obtain ⟨a5, g5, c5, cur5, rfl, -⟩ := own_blk hOr (by decide)
        replace E1 := Lib.hid E1; replace E2 := Lib.hid E2; replace hbr := Lib.hid hbr
        clear hOr hLr hFr hen
        go_wp2_with fail
        refine E1.out.mono ?_
        rintro e w5 ⟨rfl, hb5⟩
        go_wp2_with fail
        refine (E2.out _ hb5).mono ?_
        rintro e w6 ⟨rfl, rfl⟩
        go_wp2_with fail
        refine (LV.out _).mono ?_
        rintro e w6 ⟨rfl, hb6⟩
        go_wp2_with fail
        go_ret
        exact ⟨rfl, (hbr.out.tr hb5).tr hb6⟩
  · obtain rfl : N = 0 := by omega
    have hF := hF.out.bl hbl
    have hb1 := hb1.out.tr hbl
    have hL := hL.out.bl hbl
    go_wp2_with fail
    clear hbl
    obtain ⟨w3, hw3⟩ : ∃ z, w2.alloc (.cells #[I nd, I s] 3) = z := ⟨_, rfl⟩
    rw [hw3] at hF hb1 hL hlit ⊢
    clear hw3
    obtain ⟨nv, hnv⟩ : ∃ z, Value.slice (some ⟨w2.heap.size, 0, none⟩) 2 2 = z := ⟨_, rfl⟩
    rw [hnv] at hlit ⊢
    have hNd : w3.ownsRow w2.heap.size 3 1 nv 2 ([nd, s].map I) := hlit
    clear hlit hnv
    replace hF := Lib.hid hF; replace hb1 := Lib.hid hb1; replace hL := Lib.hid hL; replace hNd := Lib.hid hNd
    go_loopw [15] (fun i wr => ∃ j : Nat, j ≤ 2 ∧ i = I j ∧ wr.ownsRow w2.heap.size 3 1 nv 2 ([nd, s].map I) ∧ LS wr p 1 F (List.replicate 40 0) ∧ FRow wr gF aF F ∧ Bl w wr) (fun i _ => 2 - (intOf i).toNat)
    case atStart => exact ⟨0, by omega, rfl, hNd.out, hL.out, hF.out, hb1.out⟩
    case round =>
      obtain ⟨j, hjn, rfl, hOr, hLr, hFr, hbr⟩ := hrel
      clear hNd hL hF hb1
      by_cases hlt : j < 2
      · obtain ⟨y, hy⟩ : ∃ z, [nd, s].getD j 0 = z := ⟨_, rfl⟩
        obtain ⟨a5, g5, c5, cur5, rfl, hb5, R5⟩ := own_blk hOr (by decide)
        have r0 : wr.cell? ⟨g5, j, none⟩ = some (I y) := by
          obtain ⟨h1, h2, -, h4⟩ := R5 (by omega)
          rw [cell_at h2, h4 j (by omega), List.getElem?_map, ← hy, List.getD_eq_getElem?_getD, List.getElem?_eq_getElem (by simpa using hlt)]
          rfl
        obtain ⟨rfl, hg5, -⟩ := R5 (by omega)
        have hrd : ∀ w', Bl wr w' → w'.cell? ⟨g5, j, none⟩ = some (I y) := fun w' hb => by
          rw [cell_at (var_bl hg5 hb), ← cell_at hg5]; exact r0
        obtain ⟨x, b, hxb⟩ : ∃ x b, onM F k y t = .tuple #[fv x, .bool b] := by
          unfold onM; split <;> exact ⟨_, _, rfl⟩
        have O1 := on_any wr p 1 F (List.replicate 40 0) k y t hLr (by omega)
        rw [hxb] at O1
        replace O1 := Lib.hid O1; replace hLr := Lib.hid hLr; replace hFr := Lib.hid hFr; replace hbr := Lib.hid hbr; replace hOr := Lib.hid hOr
        replace hrd := Lib.hid hrd; replace hxb := Lib.hid hxb
        clear R5 hy hg5
        go_wp2_with fail
        refine O1.out.mono ?_
        rintro e w5 ⟨rfl, hb6⟩
        obtain ⟨xk, xf, xt, xa, xb, xn⟩ := x
        have hbl5 := hb6.al (.cells #[I xk, I xf, I xt, I xa, I xb, I xn] 40)
        have hv5 := heap_alloc_new w5 (.cells #[I xk, I xf, I xt, I xa, I xb, I xn] 40)
        have r5 := hrd.out _ hbl5
        have O2 := onR_any (w5.alloc (.cells #[I xk, I xf, I xt, I xa, I xb, I xn] 40)) gF aF cF F k y t (hFr.out.bl hbl5) (by omega)
        rw [hxb.out, hN] at O2
        replace O2 := Lib.hid O2; replace hbl5 := Lib.hid hbl5; replace hv5 := Lib.hid hv5
        clear O1 hb6 hxb
        go_wp2_with fail
        refine O2.out.mono ?_
        rintro e w7 ⟨rfl, hb7⟩
        have hv7 := var_bl hv5.out hb7
        have hbl7 := (hbl5.out.tr hb7).al (.cells #[I xk, I xf, I xt, I xa, I xb, I xn] 40)
        have hv8 := var_bl hv7 ((Bl.rfl' w7).al (.cells #[I xk, I xf, I xt, I xa, I xb, I xn] 40))
        have p0 := cell_at hv8 0; have p1 := cell_at hv8 1; have p2 := cell_at hv8 2; have p3 := cell_at hv8 3; have p4 := cell_at hv8 4; have p5 := cell_at hv8 5
        simp only [List.getElem?_toArray, List.getElem?_cons_succ, List.getElem?_cons_zero] at p0 p1 p2 p3 p4 p5
        have hlt5 : w5.heap.size < w7.heap.size := lt_of_block hv7
        replace hbl7 := Lib.hid hbl7
        clear O2 hv5 hbl5 hv7 hv8 hb7 r5 r0
        go_wp2_with fail
        go_roundw
        case rel => exact ⟨j + 1, by omega, by go_num, own_below hOr.out hbl7.out, hLr.out.bl hbl7.out, hFr.out.bl hbl7.out, hbr.out.tr hbl7.out⟩
        case measure => simp [intOf]; omega
      · obtain rfl : j = 2 := by omega
        have E1 := end_ls wr p 1 F (List.replicate 40 0) hLr (by omega)
        have E2 := fun w' hb => endR_any w' gF aF cF F (hFr.bl hb) (by omega)
        obtain ⟨en, hen⟩ : ∃ z, endTo F F.length = z := ⟨_, rfl⟩
        rw [hN] at hen E1
        rw [hen] at E1
        simp only [hN, hen] at E2
        obtain ⟨a5, g5, c5, cur5, rfl, -⟩ := own_blk hOr (by decide)
        replace E1 := Lib.hid E1; replace E2 := Lib.hid E2; replace hbr := Lib.hid hbr
        clear hOr hLr hFr hen
        go_wp2_with fail
        refine E1.out.mono ?_
        rintro e w5 ⟨rfl, hb5⟩
        go_wp2_with fail
        refine (E2.out _ hb5).mono ?_
        rintro e w6 ⟨rfl, rfl⟩
        go_wp2_with fail
        refine (LV.out _).mono ?_
        rintro e w6 ⟨rfl, hb6⟩
        go_wp2_with fail
        go_ret
        exact ⟨rfl, (hbr.out.tr hb5).tr hb6⟩
end Go.Proofs.Ytndipeipcodidaa.linkOn
