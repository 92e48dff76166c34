/-
  Which text is a path, and how a match is wrong, is the document's, for any text, numbers, byte and heads.
-/
import Derived.Test.YtpdcadlgdpkkoaaMaO
import Derived.Test.YtpdcadlgdpkkoaaMaR
import Derived.Test.YtpdcadlgdpkkoaaMaS
import Derived.Test.YtpdcadlgdpkkoaaShort
namespace Go.Proofs.Ytpdcadlgdpkkoaa.matchPaths
open Go.ChangeShapes Go.WideShapes Go.ChangeAt Go.RowKit
open Go.Proofs.Ytpdcadlgdpkkoaa.mat Go.Proofs.Ytpdcadlgdpkkoaa.heads
set_option linter.unusedVariables false
set_option linter.unusedSimpArgs false

set_option maxRecDepth 20000 in
set_option maxHeartbeats 8000000 in
theorem walk {w : World} (k0 : ByteArray) (hk0 : k0.size ≤ 9223372036854775807) (n : Int) (l1 : -9223372036854775808 ≤ n) (u1 : n ≤ 9223372036854775807) (at_ : Int) (l2 : -9223372036854775808 ≤ at_) (u2 : at_ ≤ 9223372036854775807) (c : Int) (c0 : 0 ≤ c) (c1 : c ≤ 255) (vl : Value) (R : List Hd) (hR : RawAt w vl R ∧ NoRow vl) (hL : Long R) :
    Calls Try.prog 3 #[S k0, I n, I at_, .int .u8 c, vl] w fun e w' => e = .returned (.bool true) ∧ Bl w w' := by
  obtain ⟨iu, hiu, zu0, zu1, zu2⟩ := info_parts infoH
  have TX := Lib.hid (fun w => text_any n w l1 u1)
  have SH0 : ∀ w, Calls Try.prog 10 #[S k0, I 62] w fun e w' => e = .returned (S (shortS k0 62)) ∧ w = w' := fun w => short_any k0 62 w hk0 (by omega)
  have SH := Lib.hid SH0
  clear SH0
  have hsh := shortS_size k0 62
  have LV := Lib.hid lives_any
  have AR := Lib.hid (fun m w h3 h4 => around_any at_ m w l2 u2 h3 h4)
  have hRA := hR.1
  have hRN := hR.2
  obtain ⟨va, vb, vo, vc, rfl, hRm, -⟩ := hR.1
  have RF := Lib.hid (fun w' (hb : Bl w w') j (hj : j ≤ R.length) => raw_feed (hRA.bl hb) hRN j hj)
  obtain ⟨N, hN⟩ : ∃ z_, (R.length) = z_ := ⟨_, rfl⟩
  have hFit := Lib.hid (fun j => NoRow.fit hL j)
  have hNc : R.length ≤ vc := (hRN _ _ _ rfl).1
  rw [hN] at hNc
  clear hR hRA hRN hL
  replace hN := Lib.hid hN
  replace hsh := Lib.hid hsh
  go_enter Try.func3, Try.ntmps3
  go_wp2_with fail
  replace hN := hN.out
  with_reducible refine (TX.out _).mono ?_
  rintro e w1 ⟨t1, rfl, ht1, q1⟩
  have cv1 := Lib.run_convert_string_bytes (P := Try.prog) w1 9 23 5 t1 Try.underlying9 Try.underlying23 Try.underlying5
  have br := bytes_row w1 5 t1
  have bb := bytes_bl w1 5 t1
  obtain ⟨bcap, hbc⟩ : ∃ z_, (grownCap w1 t1.size 0 5) = z_ := ⟨_, rfl⟩
  rw [hbc] at cv1
  obtain ⟨y1, hy1⟩ : ∃ X, Lib.bytesWorld w1 5 t1 = X := ⟨_, rfl⟩
  rw [hy1] at cv1 br bb
  obtain ⟨g, hg⟩ : ∃ X, w1.heap.size = X := ⟨_, rfl⟩
  rw [hg] at cv1 br
  obtain ⟨m, hm⟩ : ∃ z_, (t1.size) = z_ := ⟨_, rfl⟩
  rw [hm] at cv1 br ht1
  obtain ⟨xs, hxs⟩ : ∃ z_, ((t1.data.toList.map fun b => (b.toNat : Int))) = z_ := ⟨_, rfl⟩
  rw [hxs] at br
  have t2 := q1.tr bb
  have hge : w.heap.size ≤ g := by rw [← hg]; exact q1.size
  clear hbc hy1 hg hm hxs q1 bb
  replace br := Lib.hid br
  replace t2 := Lib.hid t2
  replace hge := Lib.hid hge
  go_upto_if 21 with fail
  go_cut [11] from 19 to 28 (fun v wx => v = .slice (some ⟨g, 0, none⟩) m bcap ∧ ∃ ys, ByteRow wx g m 5 ys ∧ Bl w wx)
  case first =>
    by_cases hm0 : 0 < m
    · have d1 : decide ((m : Int) > 0) = true := decide_eq_true (by omega)
      have A1 := AR.out (m : Int) y1 (by omega) (by omega)
      have f0 := around_lo at_ (m : Int) (by omega)
      have f1 := around_hi at_ (m : Int) (by omega)
      obtain ⟨j, hj⟩ : ∃ z_, (around at_ (m : Int)) = z_ := ⟨_, rfl⟩
      rw [hj] at A1 f0 f1
      obtain ⟨jn, rfl⟩ : ∃ k : Nat, j = k := ⟨j.toNat, by omega⟩
      have hjm : jn < m := by omega
      have cj := br.out.cell jn hjm
      have fj := br.out.free jn hjm
      have br2 := br.out.set jn c
      have hb2 := t2.out.gp (gby_set y1 g jn (.int .u8 c)) hge.out
      obtain ⟨y2, hy2⟩ : ∃ X, y1.setCell ⟨g, jn, none⟩ (.int .u8 c) = X := ⟨_, rfl⟩
      rw [hy2] at br2 hb2
      clear hj cv1
      replace A1 := Lib.hid A1
      replace br2 := Lib.hid br2
      replace hb2 := Lib.hid hb2
      go_wp2_with fail
      with_reducible refine (A1.out).mono ?_
      rintro e w' ⟨rfl, rfl⟩
      go_wp2_with fail
      go_meet
      case rel => exact ⟨rfl, _, br2.out, hb2.out⟩
    · have d1 : decide ((m : Int) > 0) = false := decide_eq_false (by omega)
      clear cv1
      go_wp2_with fail
      go_meet
      case rel => exact ⟨rfl, _, br.out, t2.out⟩
  case rest =>
    obtain ⟨rfl, ys, br2, hb2⟩ := hcut
    clear cv1 br t2 AR
    obtain ⟨J, hJ⟩ : ∃ J, min N 10 = J := ⟨_, rfl⟩
    have hJN : J ≤ N := by omega
    have hJ10 : J ≤ 10 := by omega
    have hmin : min (N : Int) 10 = (J : Int) := by omega
    have hJc : J ≤ vc := by omega
    have F1 := RF.out _ hb2 J (by omega)
    have hlJ : (R.take J).length = J := by rw [List.length_take]; omega
    have hbs := hb2.size
    replace br2 := Lib.hid br2
    replace hb2 := Lib.hid hb2
    replace F1 := Lib.hid F1
    have hown0 := World.ownsRow_lit (base := wc.heap.size) (e := 42) (size := 2) wc #[] 0 (Nat.le_refl _) (by unfold maxLen; omega) rfl
    have b0 := (Bl.rfl' wc).al (.cells #[] 42)
    have F2 := RF.out _ (hb2.out.tr b0) J (by omega)
    clear hJ F1
    replace hown0 := Lib.hid hown0
    replace F2 := Lib.hid F2
    replace b0 := Lib.hid b0
    go_upto_region 5 with (at_builtin; refine wpList_append_feed rfl _ _ 22 rfl wc.heap.size 42 iu (.agg #[S ByteArray.empty, S ByteArray.empty]) 2 32 Try.underlying22 hiu zu0 zu1 zu2 rfl (by decide) _ 0 [] (by first | rfl | simp [Act.eval, Act.put]) hown0.out _ J (flatB hB (R.take J)) F2.out (flat_one _) (by first | rfl | simp [Act.eval, Act.put]) (by omega) (by omega) b0.out.size ?_; intro v5 w5 hown5 hgrow5)
    have hbw : Bl wc w5 := b0.out.grown hgrow5 (fun k hk => (hown0.out.lt k hk).1)
    have hO5 : OwnB hB 2 42 w5 wc.heap.size v5 (R.take J) := by
      unfold OwnB
      rw [hlJ]
      first | exact hown5 | (rw [Nat.zero_add, List.nil_append] at hown5; exact hown5)
    have hHF := heads_own hO5
    obtain ⟨fa, fg, fc, rfl, -⟩ := OwnB.row hO5 (by decide)
    rw [hlJ] at hHF ⊢
    have br5 := br2.out.bl hbw
    have hb5 := hb2.out.tr hbw
    clear hown0 F2 b0 hgrow5 hown5 hbw hO5 br2 hb2 RF hbs
    have FIT := hFit.out J
    obtain ⟨F, hF⟩ : ∃ z_, (R.take J) = z_ := ⟨_, rfl⟩
    rw [hF] at hHF FIT hlJ
    clear hF hFit
    have g0 : Bl w5 w5.drew := (Bl.rfl' w5).dr
    have hHF2 := hHF.bl g0
    have br6 := br5.bl g0
    have hb6 := hb5.tr g0
    have hq0 : (strOfNums ys).size ≤ 62 := by
      rw [strOfNums_size]
      obtain ⟨cs, lo, -, h2, -⟩ := br5
      omega
    obtain ⟨q, hq⟩ : ∃ z_, (strOfNums ys) = z_ := ⟨_, rfl⟩
    have hcv : ∀ w', Bl w5.drew w' → (convert 23 9 (.slice (some ⟨g, 0, none⟩) m bcap)).run Try.prog w' = .ok (.string q) w' := fun w' hb => by
      rw [← hq]
      exact (br6.bl hb).text Try.underlying23 Try.underlying5 Try.underlying9 bcap
    rw [hq] at hq0
    obtain ⟨x0, hx0⟩ : ∃ X, w5.drew = X := ⟨_, rfl⟩
    rw [hx0] at hHF2 hb6 hcv
    have hq1 := Lib.hid (Bl.rfl' x0)
    have S1 := SH.out
    obtain ⟨sk, hsk⟩ : ∃ z_, (shortS k0 62) = z_ := ⟨_, rfl⟩
    simp only [hsk] at S1 hsh
    clear hHF br5 br6 hb5 g0 hq hsk SH
    replace hHF2 := Lib.hid hHF2
    replace hb6 := Lib.hid hb6
    replace hcv := Lib.hid hcv
    replace S1 := Lib.hid S1
    refine wp_region_held_drew (S := fun w' => (convert 23 9 (.slice (some ⟨g, 0, none⟩) m bcap)).run Try.prog w' = .ok (.string q) w') (by kernel_rfl) ?_ (fun hHeld => ?_)
    · exact hcv.out _ (by rw [hx0]; exact hq1.out)
    rw [hx0] at hHeld ⊢
    clear hx0
    refine wpAnyH_take (i := 0) (v := ?v0_1) rfl (by kernel_rfl) (by kernel_rfl) (by kernel_rfl) (fun _ _ _ h => h) (Or.inl ⟨by rfl, ?y0_1⟩) hHeld ?r0_1
    case y0_1 => (intro w hSw; (try dsimp only at hSw); go_split_ands; go_simp; try with_reducible rfl)
    try simp only [List.getElem_toArray, List.getElem_cons_succ, List.getElem_cons_zero, Act.put, List.setIfInBounds_toArray, List.set_cons_zero, List.set_cons_succ]
    refine wpAnyH_take (i := 2) (v := ?v2_2) rfl (by kernel_rfl) (by kernel_rfl) (by kernel_rfl) (fun _ _ _ h => h) (Or.inl ⟨by rfl, ?y2_2⟩) hHeld ?r2_2
    case y2_2 => (intro w hSw; (try dsimp only at hSw); go_split_ands; go_simp; try with_reducible rfl)
    try simp only [List.getElem_toArray, List.getElem_cons_succ, List.getElem_cons_zero, Act.put, List.setIfInBounds_toArray, List.set_cons_zero, List.set_cons_succ]
    refine wpAnyH_take (i := 4) (v := ?v4_3) rfl (by kernel_rfl) (by kernel_rfl) (by kernel_rfl) (fun _ _ _ h => h) (Or.inl ⟨by rfl, ?y4_3⟩) hHeld ?r4_3
    case y4_3 => (intro w hSw; (try dsimp only at hSw); go_split_ands; go_simp; try with_reducible rfl)
    try simp only [List.getElem_toArray, List.getElem_cons_succ, List.getElem_cons_zero, Act.put, List.setIfInBounds_toArray, List.set_cons_zero, List.set_cons_succ]
    refine wpAnyH_take (i := 5) (v := ?v5_4) rfl (by kernel_rfl) (by kernel_rfl) (by kernel_rfl) (fun _ _ _ h => h) (Or.inl ⟨by rfl, ?y5_4⟩) hHeld ?r5_4
    case y5_4 => (intro w hSw; (try dsimp only at hSw); go_split_ands; go_simp; try with_reducible rfl)
    try simp only [List.getElem_toArray, List.getElem_cons_succ, List.getElem_cons_zero, Act.put, List.setIfInBounds_toArray, List.set_cons_zero, List.set_cons_succ]
    refine wpAnyH_ready (rs := [1]) (by kernel_rfl) (by simp) ?_
    refine AllReadyH.cons rfl (fun K hK => ?_) AllReadyH.nil
    have hHeld' := hHeld
    try dsimp only at hHeld'
    go_split_ands
    go_simp
    with_reducible refine (S1.out _).mono ?_
    rintro e x1 ⟨rfl, rfl⟩
    refine hK.out _ _ ?_ (fun hHeld => ?_)
    · exact (hcv.out _ hq1.out)
    clear hK K
    try simp only [List.getElem_toArray, List.getElem_cons_succ, List.getElem_cons_zero, Act.put, List.setIfInBounds_toArray, List.set_cons_zero, List.set_cons_succ]
    refine wpAnyH_ready (rs := [3]) (by kernel_rfl) (by simp) ?_
    refine AllReadyH.cons rfl (fun K hK => ?_) AllReadyH.nil
    have hHeld' := hHeld
    try dsimp only at hHeld'
    go_split_ands
    go_simp
    with_reducible refine (TX.out _).mono ?_
    rintro e x1 ⟨t2, rfl, ht2, hn⟩
    replace hq1 := Lib.hid (hq1.out.tr hn)
    clear hn
    refine hK.out _ _ ?_ (fun hHeld => ?_)
    · exact (hcv.out _ hq1.out)
    clear hK K
    try simp only [List.getElem_toArray, List.getElem_cons_succ, List.getElem_cons_zero, Act.put, List.setIfInBounds_toArray, List.set_cons_zero, List.set_cons_succ]
    refine wpAnyH_ready (rs := [6]) (by kernel_rfl) (by simp) ?_
    refine AllReadyH.cons rfl (fun K hK => ?_) AllReadyH.nil
    have hHeld' := hHeld
    try dsimp only at hHeld'
    go_split_ands
    go_simp
    refine hK.out _ _ ?_ (fun hHeld => ?_)
    · exact (hcv.out _ (hq1.out.al (.cells #[S sk, S t2, S q] 9)))
    clear hK K
    try simp only [List.getElem_toArray, List.getElem_cons_succ, List.getElem_cons_zero, Act.put, List.setIfInBounds_toArray, List.set_cons_zero, List.set_cons_succ]
    refine wpAnyH_take (i := 7) (v := ?v7_5) rfl (by kernel_rfl) (by kernel_rfl) (by kernel_rfl) (fun _ _ _ h => h) (Or.inl ⟨by rfl, ?y7_5⟩) hHeld ?r7_5
    case y7_5 => (intro w hSw; (try dsimp only at hSw); go_split_ands; go_simp; try with_reducible rfl)
    try simp only [List.getElem_toArray, List.getElem_cons_succ, List.getElem_cons_zero, Act.put, List.setIfInBounds_toArray, List.set_cons_zero, List.set_cons_succ]
    refine wpAnyH_done (by kernel_rfl) ?_ _
    have ba := heap_alloc_new x1 (.cells #[S sk, S t2, S q] 9)
    have q2 := hq1.out.al (.cells #[S sk, S t2, S q] 9)
    obtain ⟨z, hz⟩ : ∃ X, x1.alloc (.cells #[S sk, S t2, S q] 9) = X := ⟨_, rfl⟩
    obtain ⟨ga, hga⟩ : ∃ X, x1.heap.size = X := ⟨_, rfl⟩
    rw [hz] at ba q2 ⊢
    rw [hga] at ba ⊢
    have hbz := hb6.out.tr q2
    have hFz := hHF2.out.bl q2
    have tx : ∀ w', Bl z w' → ∀ i, i < 3 → ∃ t : ByteArray, w'.cell? ⟨ga, i, none⟩ = some (S t) ∧ t.size ≤ 62 := fun w' hb i hi => by
      rw [cell_at (blk_bl ba hb) i]
      rcases i with _ | _ | _ | i
      · exact ⟨sk, rfl, hsh.out⟩
      · exact ⟨t2, rfl, ht2⟩
      · exact ⟨q, rfl, hq0⟩
      · omega
    clear hz hga ba q2 hq1 hb6 hHF2 hcv S1 hHeld
    obtain ⟨nb, hnb⟩ : ∃ b, (n.tmod 2 == 0) = b := ⟨_, rfl⟩
    replace tx := Lib.hid tx
    replace hbz := Lib.hid hbz
    replace hFz := Lib.hid hFz
    go_wp2_with fail
    go_loopw [14] (fun iv wr => ∃ i : Nat, i ≤ 3 ∧ iv = I i ∧ Bl z wr) (fun iv _ => 3 - (intOf iv).toNat)
    case atStart => exact ⟨0, by omega, rfl, Bl.rfl' _⟩
    case round =>
      obtain ⟨i, hi, rfl, hbr⟩ := hrel
      by_cases hlt : i < 3
      · have d1 : decide ((i : Int) < 3) = true := decide_eq_true (by omega)
        have d2 : decide (i < 3) = true := decide_eq_true hlt
        have hli : (i : Int) < 3 := by omega
        have wi : IntKind.i64.wrap ((i : Int) + 1) = ((i + 1 : Nat) : Int) := by rw [IntKind.wrap_i64]; omega
        obtain ⟨t, ct, ht⟩ := tx.out wr hbr i hlt
        have b1 := heap_alloc_new wr (oM t nb (.slice fa J fc))
        have q1 := (Bl.rfl' wr).al (oM t nb (.slice fa J fc))
        obtain ⟨y, hy⟩ : ∃ X, wr.alloc (.cells #[.string t, .bool nb, .slice fa J fc] 29) = X := ⟨_, rfl⟩
        have hh : wr.alloc (oM t nb (.slice fa J fc)) = y := hy
        obtain ⟨rm, hrm⟩ : ∃ X, wr.heap.size = X := ⟨_, rfl⟩
        rw [hh] at b1 q1
        rw [hrm] at b1
        have hbar := lt_of_block b1
        have ca : ∀ w', Bl wr w' → w'.cell? ⟨ga, i, none⟩ = some (S t) := fun w' hb => by
          rw [hb.cell (p := ⟨ga, i, none⟩) (World.block_lt_of_cell? wr ⟨ga, i, none⟩ ct)]
          exact ct
        have hFy := (hFz.out.bl hbr).bl q1
        have PT := fun w => path_any t w (by omega)
        have RP := fun w => rpath_any t w (by omega)
        have MC := fun w' (hb : Bl y w') => mcheck_any t nb _ F w' (by omega) (hFy.bl hb) (by omega) FIT
        have RC := fun w' (hb : Bl y w') => rmcheck_any t nb _ F w' (by omega) (hFy.bl hb) (by omega) FIT
        obtain ⟨pb, hpb⟩ : ∃ z_, (pathF t) = z_ := ⟨_, rfl⟩
        simp only [hpb] at PT RP
        obtain ⟨mc, hmc⟩ : ∃ z_, (mchk t F) = z_ := ⟨_, rfl⟩
        simp only [hmc] at MC RC
        have g0 : Bl y y.drew := (Bl.rfl' y).dr
        have KX := fun w' (hb : Bl y w') => (⟨ca w' (q1.tr hb), cell_at (blk_bl b1 hb) 0, cell_at (blk_bl b1 hb) 1, cell_at (blk_bl b1 hb) 2⟩ : w'.cell? ⟨ga, i, none⟩ = some (S t) ∧ w'.cell? ⟨rm, 0, none⟩ = some (S t) ∧ w'.cell? ⟨rm, 1, none⟩ = some (.bool nb) ∧ w'.cell? ⟨rm, 2, none⟩ = some (.slice fa J fc))
        have hbY := hbr.tr q1
        have e1 : (mc == mc) = true := by simp
        clear hh hpb hmc hFy ca b1 q1 ht
        replace hbY := Lib.hid hbY
        replace KX := Lib.hid KX
        replace PT := Lib.hid PT
        replace RP := Lib.hid RP
        replace MC := Lib.hid MC
        replace RC := Lib.hid RC
        replace hbar := Lib.hid hbar
        replace g0 := Lib.hid g0
        replace hy := Lib.hid hy
        replace hrm := Lib.hid hrm
        go_upto_region 10 with fail
        rw [hy.out, hrm.out]
        clear hy hrm ct
        obtain ⟨y', hy'⟩ : ∃ X, y.drew = X := ⟨_, rfl⟩
        rw [hy'] at g0
        have hq := g0
        refine wp_region_held_drew (S := fun w' => w'.cell? ⟨ga, i, none⟩ = some (S t) ∧ w'.cell? ⟨rm, 0, none⟩ = some (S t) ∧ w'.cell? ⟨rm, 1, none⟩ = some (.bool nb) ∧ w'.cell? ⟨rm, 2, none⟩ = some (.slice fa J fc)) (by kernel_rfl) ?_ (fun hHeld => ?_)
        · exact KX.out _ (by rw [hy']; exact hq.out)
        rw [hy'] at hHeld ⊢
        clear hy' g0
        refine wpAnyH_take (i := 0) (v := ?v0_6) rfl (by kernel_rfl) (by kernel_rfl) (by kernel_rfl) (fun _ _ _ h => h) (Or.inl ⟨by rfl, ?y0_6⟩) hHeld ?r0_6
        case y0_6 => (intro w hSw; (try dsimp only at hSw); go_split_ands; go_simp; try with_reducible rfl)
        try simp only [List.getElem_toArray, List.getElem_cons_succ, List.getElem_cons_zero, Act.put, List.setIfInBounds_toArray, List.set_cons_zero, List.set_cons_succ]
        refine wpAnyH_take (i := 1) (v := ?v1_7) rfl (by kernel_rfl) (by kernel_rfl) (by kernel_rfl) (fun _ _ _ h => h) (Or.inl ⟨by rfl, ?y1_7⟩) hHeld ?r1_7
        case y1_7 => (intro w hSw; (try dsimp only at hSw); go_split_ands; go_simp; try with_reducible rfl)
        try simp only [List.getElem_toArray, List.getElem_cons_succ, List.getElem_cons_zero, Act.put, List.setIfInBounds_toArray, List.set_cons_zero, List.set_cons_succ]
        refine wpAnyH_take (i := 2) (v := ?v2_8) rfl (by kernel_rfl) (by kernel_rfl) (by kernel_rfl) (fun _ _ _ h => h) (Or.inl ⟨by rfl, ?y2_8⟩) hHeld ?r2_8
        case y2_8 => (intro w hSw; (try dsimp only at hSw); go_split_ands; go_simp; try with_reducible rfl)
        try simp only [List.getElem_toArray, List.getElem_cons_succ, List.getElem_cons_zero, Act.put, List.setIfInBounds_toArray, List.set_cons_zero, List.set_cons_succ]
        refine wpAnyH_take (i := 3) (v := ?v3_9) rfl (by kernel_rfl) (by kernel_rfl) (by kernel_rfl) (fun _ _ _ h => h) (Or.inl ⟨by rfl, ?y3_9⟩) hHeld ?r3_9
        case y3_9 => (intro w hSw; (try dsimp only at hSw); go_split_ands; go_simp; try with_reducible rfl)
        try simp only [List.getElem_toArray, List.getElem_cons_succ, List.getElem_cons_zero, Act.put, List.setIfInBounds_toArray, List.set_cons_zero, List.set_cons_succ]
        refine wpAnyH_take (i := 5) (v := ?v5_10) rfl (by kernel_rfl) (by kernel_rfl) (by kernel_rfl) (fun _ _ _ h => h) (Or.inl ⟨by rfl, ?y5_10⟩) hHeld ?r5_10
        case y5_10 => (intro w hSw; (try dsimp only at hSw); go_split_ands; go_simp; try with_reducible rfl)
        try simp only [List.getElem_toArray, List.getElem_cons_succ, List.getElem_cons_zero, Act.put, List.setIfInBounds_toArray, List.set_cons_zero, List.set_cons_succ]
        refine wpAnyH_take (i := 6) (v := ?v6_11) rfl (by kernel_rfl) (by kernel_rfl) (by kernel_rfl) (fun _ _ _ h => h) (Or.inl ⟨by rfl, ?y6_11⟩) hHeld ?r6_11
        case y6_11 => (intro w hSw; (try dsimp only at hSw); go_split_ands; go_simp; try with_reducible rfl)
        try simp only [List.getElem_toArray, List.getElem_cons_succ, List.getElem_cons_zero, Act.put, List.setIfInBounds_toArray, List.set_cons_zero, List.set_cons_succ]
        refine wpAnyH_take (i := 7) (v := ?v7_12) rfl (by kernel_rfl) (by kernel_rfl) (by kernel_rfl) (fun _ _ _ h => h) (Or.inl ⟨by rfl, ?y7_12⟩) hHeld ?r7_12
        case y7_12 => (intro w hSw; (try dsimp only at hSw); go_split_ands; go_simp; try with_reducible rfl)
        try simp only [List.getElem_toArray, List.getElem_cons_succ, List.getElem_cons_zero, Act.put, List.setIfInBounds_toArray, List.set_cons_zero, List.set_cons_succ]
        refine wpAnyH_take (i := 8) (v := ?v8_13) rfl (by kernel_rfl) (by kernel_rfl) (by kernel_rfl) (fun _ _ _ h => h) (Or.inl ⟨by rfl, ?y8_13⟩) hHeld ?r8_13
        case y8_13 => (intro w hSw; (try dsimp only at hSw); go_split_ands; go_simp; try with_reducible rfl)
        try simp only [List.getElem_toArray, List.getElem_cons_succ, List.getElem_cons_zero, Act.put, List.setIfInBounds_toArray, List.set_cons_zero, List.set_cons_succ]
        refine wpAnyH_ready (rs := [4]) (by kernel_rfl) (by simp) ?_
        refine AllReadyH.cons rfl (fun K hK => ?_) AllReadyH.nil
        have hHeld' := hHeld
        try dsimp only at hHeld'
        go_split_ands
        go_simp
        refine ((PT.out _)).mono ?_
        rintro e w' ⟨rfl, hn⟩
        replace hq := Lib.hid (hq.out.tr hn)
        clear hn
        refine hK.out _ _ ?_ (fun hHeld => ?_)
        · exact (KX.out _ hq.out)
        clear hK K
        try simp only [List.getElem_toArray, List.getElem_cons_succ, List.getElem_cons_zero, Act.put, List.setIfInBounds_toArray, List.set_cons_zero, List.set_cons_succ]
        refine wpAnyH_ready (rs := [9]) (by kernel_rfl) (by simp) ?_
        refine AllReadyH.cons rfl (fun K hK => ?_) AllReadyH.nil
        have hHeld' := hHeld
        try dsimp only at hHeld'
        go_split_ands
        go_simp
        refine ((RP.out _)).mono ?_
        rintro e w' ⟨rfl, hn⟩
        replace hq := Lib.hid (hq.out.tr hn)
        clear hn
        refine hK.out _ _ ?_ (fun hHeld => ?_)
        · exact (KX.out _ hq.out)
        clear hK K
        try simp only [List.getElem_toArray, List.getElem_cons_succ, List.getElem_cons_zero, Act.put, List.setIfInBounds_toArray, List.set_cons_zero, List.set_cons_succ]
        refine wpAnyH_take (i := 10) (v := ?v10_14) rfl (by kernel_rfl) (by kernel_rfl) (by kernel_rfl) (fun _ _ _ h => h) (Or.inl ⟨by rfl, ?y10_14⟩) hHeld ?r10_14
        case y10_14 => (intro w hSw; (try dsimp only at hSw); go_split_ands; go_simp; try with_reducible rfl)
        try simp only [List.getElem_toArray, List.getElem_cons_succ, List.getElem_cons_zero, Act.put, List.setIfInBounds_toArray, List.set_cons_zero, List.set_cons_succ]
        refine wpAnyH_take (i := 11) (v := ?v11_15) rfl (by kernel_rfl) (by kernel_rfl) (by kernel_rfl) (fun _ _ _ h => h) (Or.inl ⟨by rfl, ?y11_15⟩) hHeld ?r11_15
        case y11_15 => (intro w hSw; (try dsimp only at hSw); go_split_ands; go_simp; try with_reducible rfl)
        try simp only [List.getElem_toArray, List.getElem_cons_succ, List.getElem_cons_zero, Act.put, List.setIfInBounds_toArray, List.set_cons_zero, List.set_cons_succ]
        refine wpAnyH_take (i := 12) (v := ?v12_16) rfl (by kernel_rfl) (by kernel_rfl) (by kernel_rfl) (fun _ _ _ h => h) (Or.inl ⟨by rfl, ?y12_16⟩) hHeld ?r12_16
        case y12_16 => (intro w hSw; (try dsimp only at hSw); go_split_ands; go_simp; try with_reducible rfl)
        try simp only [List.getElem_toArray, List.getElem_cons_succ, List.getElem_cons_zero, Act.put, List.setIfInBounds_toArray, List.set_cons_zero, List.set_cons_succ]
        refine wpAnyH_take (i := 14) (v := ?v14_17) rfl (by kernel_rfl) (by kernel_rfl) (by kernel_rfl) (fun _ _ _ h => h) (Or.inl ⟨by rfl, ?y14_17⟩) hHeld ?r14_17
        case y14_17 => (intro w hSw; (try dsimp only at hSw); go_split_ands; go_simp; try with_reducible rfl)
        try simp only [List.getElem_toArray, List.getElem_cons_succ, List.getElem_cons_zero, Act.put, List.setIfInBounds_toArray, List.set_cons_zero, List.set_cons_succ]
        refine wpAnyH_ready (rs := [13]) (by kernel_rfl) (by simp) ?_
        refine AllReadyH.cons rfl (fun K hK => ?_) AllReadyH.nil
        have hHeld' := hHeld
        try dsimp only at hHeld'
        go_split_ands
        go_simp
        refine ((MC.out _ hq.out)).mono ?_
        rintro e w' ⟨rfl, hn⟩
        replace hq := Lib.hid (hq.out.tr hn)
        clear hn
        refine hK.out _ _ ?_ (fun hHeld => ?_)
        · exact (KX.out _ hq.out)
        clear hK K
        try simp only [List.getElem_toArray, List.getElem_cons_succ, List.getElem_cons_zero, Act.put, List.setIfInBounds_toArray, List.set_cons_zero, List.set_cons_succ]
        refine wpAnyH_ready (rs := [15]) (by kernel_rfl) (by simp) ?_
        refine AllReadyH.cons rfl (fun K hK => ?_) AllReadyH.nil
        have hHeld' := hHeld
        try dsimp only at hHeld'
        go_split_ands
        go_simp
        refine ((RC.out _ hq.out)).mono ?_
        rintro e w' ⟨rfl, hn⟩
        replace hq := Lib.hid (hq.out.tr hn)
        clear hn
        refine hK.out _ _ ?_ (fun hHeld => ?_)
        · exact (KX.out _ hq.out)
        clear hK K
        try simp only [List.getElem_toArray, List.getElem_cons_succ, List.getElem_cons_zero, Act.put, List.setIfInBounds_toArray, List.set_cons_zero, List.set_cons_succ]
        refine wpAnyH_take (i := 16) (v := ?v16_18) rfl (by kernel_rfl) (by kernel_rfl) (by kernel_rfl) (fun _ _ _ h => h) (Or.inl ⟨by rfl, ?y16_18⟩) hHeld ?r16_18
        case y16_18 => (intro w hSw; (try dsimp only at hSw); go_split_ands; go_simp; try with_reducible rfl)
        try simp only [List.getElem_toArray, List.getElem_cons_succ, List.getElem_cons_zero, Act.put, List.setIfInBounds_toArray, List.set_cons_zero, List.set_cons_succ]
        refine wpAnyH_take (i := 17) (v := ?v17_19) rfl (by kernel_rfl) (by kernel_rfl) (by kernel_rfl) (fun _ _ _ h => h) (Or.inl ⟨by rfl, ?y17_19⟩) hHeld ?r17_19
        case y17_19 => (intro w hSw; (try dsimp only at hSw); go_split_ands; go_simp; try with_reducible rfl)
        try simp only [List.getElem_toArray, List.getElem_cons_succ, List.getElem_cons_zero, Act.put, List.setIfInBounds_toArray, List.set_cons_zero, List.set_cons_succ]
        refine wpAnyH_done (by kernel_rfl) ?_ _
        have hbn := hbY.out.tr hq.out
        replace hbn := Lib.hid hbn
        go_wp2_with fail
        go_roundw
        case rel => exact ⟨i + 1, by omega, by first | rfl | go_num, hbn.out⟩
        case measure => simp [intOf] <;> omega
      · obtain rfl : i = 3 := by omega
        rw [show ((3 : Nat) : Int) = 3 from rfl]
        have hbe := hbz.out.tr hbr
        clear hlt
        replace hbe := Lib.hid hbe
        go_wp2_with fail
        with_reducible refine (LV.out _).mono ?_
        rintro e w' ⟨rfl, hn⟩
        have hbf := hbe.out.tr hn
        replace hbf := Lib.hid hbf
        clear hn
        go_wp2_with fail
        go_ret
        exact ⟨rfl, hbf.out⟩
end Go.Proofs.Ytpdcadlgdpkkoaa.matchPaths
