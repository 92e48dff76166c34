/-
  CertOver is true for every input: what was OK, and stays of its time, is OK for as long as a rotation says, and no longer; what is given out behind it is OK at once, for its service alone. No condition.
-/
import Derived.Test.YtajnhjcinpdfhaaCrK
namespace Go.Proofs.Ytajnhjcinpdfhaa.certOver
open Go.ChangeShapes Go.WideShapes Go.ChangeAt Go.RowKit
open Go.Proofs.Ytajnhjcinpdfhaa.cert
set_option linter.unusedVariables false
set_option linter.unusedSimpArgs false


set_option maxHeartbeats 40000000 in
set_option maxRecDepth 20000 in
theorem walk {w : World} (v0 : Value) (z0 : List Int) (hv0 : IntsAt w v0 z0) (hz0 : i64ok z0) (hm0 : z0.length ≤ maxLen) (ov : Int) (l1 : -9223372036854775808 ≤ ov) (u1 : ov ≤ 9223372036854775807) (la : Int) (l2 : -9223372036854775808 ≤ la) (u2 : la ≤ 9223372036854775807) :
    Calls Try.prog 4 #[v0, .int .i64 ov, .int .i64 la] w fun e w' => e = .returned (.bool true) ∧ Bl w w' := by
  have AC := Lib.hid (acts_any z0 v0 w hv0 hz0 hm0)
  have A1 := Lib.hid (fun w => around_any ov 51 w l1 u1 (by omega) (by omega))
  have A2 := Lib.hid (fun w => around_any la 81 w l2 u2 (by omega) (by omega))
  have f0 := around_lo ov 51 (by omega); have f1 := around_hi ov 51 (by omega)
  have g0 := around_lo la 81 (by omega); have g1 := around_hi la 81 (by omega)
  obtain ⟨kk, hkk⟩ : ∃ z_, (around ov 51) = z_ := ⟨_, rfl⟩
  rw [hkk] at A1 f0 f1
  obtain ⟨o2, ho2⟩ : ∃ z_, (around la 81) = z_ := ⟨_, rfl⟩
  rw [ho2] at A2 g0 g1
  have LV := Lib.hid lives_any
  obtain ⟨iu, hiu, zu0, zu1, zu2⟩ := info_parts infoC
  clear hv0 ho2 hkk l2 u2 hz0 hm0 l1 u1
  go_enter Try.func4, Try.ntmps4
  go_wp2_with fail
  have AC1 := AC.out
  unfold ActsD at AC1
  first | with_reducible refine (AC1).mono ?_ | refine (AC1).mono ?_
  rintro e w1 ⟨va, A, rfl, hAl, hA, hro, hb1⟩
  have PL := played_any A w1 _ va hro hA hAl
  unfold PlayedD at PL
  have hOK := okPS A hA A.length (Nat.le_refl _)
  obtain ⟨hl1, hl2⟩ := playTo_len A A.length
  obtain ⟨s, hs⟩ : ∃ z_, (playTo A A.length) = z_ := ⟨_, rfl⟩
  rw [hs] at PL hOK hl1 hl2
  have hl3 : s.G.length ≤ 16 := by omega
  have hl4 : s.U.length ≤ 16 := by omega
  replace PL := Lib.hid PL
  replace hb1 := Lib.hid hb1
  replace hOK := Lib.hid hOK
  clear AC AC1 hA hs hl1 hl2 hAl hro
  go_wp2_with fail
  first | with_reducible refine (PL.out).mono ?_ | refine (PL.out).mono ?_
  rintro e w2 ⟨p, vo, ks, rfl, hC, hG, hno, hks, hb2⟩
  have hw1 := hb1.out.size
  have hb2 := hb1.out.tr hb2
  have hlt2 := World.ownsRow.lt hG
  obtain ⟨U, G, S, t⟩ := s
  simp only at hC hG hl3 hl4 ⊢
  have hok2 : ∀ x ∈ G, okCrt x := fun x hx => (mem_gv (s := ⟨U, G, S, t⟩) hOK.out hl3 hl4 hx).2
  have hrv := hOK.out.rv
  have hTt := hOK.out.tm
  simp only at hrv hTt
  have IS := issue_any hC (by omega) (by omega) 1 t 1000 (by omega) (by omega) (by omega) (by omega)
  unfold IssueD at IS
  obtain ⟨at_, hat⟩ : ∃ z_, (t + o2) = z_ := ⟨_, rfl⟩
  have hat1 : t ≤ at_ := by omega
  have hat2 : at_ ≤ t + 80 := by omega
  obtain ⟨lg, hlg⟩ : ∃ c, (⟨(G.length : Int) + 1, (U.length : Int) + 1, 1, t, t + 1000⟩ : Crt) = c := ⟨_, rfl⟩
  rw [hlg] at IS
  replace hok2 := Lib.hid hok2
  replace hC := Lib.hid hC
  replace hG := Lib.hid hG
  replace hno := Lib.hid hno
  replace hks := Lib.hid hks
  replace hb2 := Lib.hid hb2
  replace hlt2 := Lib.hid hlt2
  replace hrv := Lib.hid hrv
  replace IS := Lib.hid IS
  replace hlg := Lib.hid hlg
  clear hb1 hOK PL
  go_wp2_with fail
  first | with_reducible refine (A1.out _).mono ?_ | refine (A1.out _).mono ?_
  rintro e w' ⟨rfl, rfl⟩
  go_wp2_with fail
  first | with_reducible refine (A2.out _).mono ?_ | refine (A2.out _).mono ?_
  rintro e w' ⟨rfl, rfl⟩
  go_wp2_with fail
  refine IS.out.mono ?_
  rintro e w3 ⟨rfl, hC3, hT3⟩
  have hG3 := own_tch hG.out hT3 hno.out
  have hb3 := hb2.out.tch hT3 (fun k hk => by have := (hks.out k hk).1; omega)
  have hbd1 : ∀ k, grw ks w2 w3 k → w.heap.size ≤ k ∧ k < w3.heap.size := fun k hk => ⟨by
    rcases hk.1 with h | h
    · have := (hks.out k h).1; omega
    · have := hb2.out.size; omega, hk.2⟩
  obtain ⟨ks1, hks1⟩ : ∃ q, grw ks w2 w3 = q := ⟨_, rfl⟩
  rw [hks1] at hC3 hbd1
  clear hks1 IS hT3 hC hG hno hks hb2 hlt2
  obtain ⟨ls, lr, lv, lf, lt⟩ := lg
  have hL := heap_alloc_new w3 (.cells #[I ls, I lr, I lv, I lf, I lt] 24)
  have hal := (Bl.rfl' w3).al (.cells #[I ls, I lr, I lv, I lf, I lt] 24)
  have hs4 : (w3.alloc (.cells #[I ls, I lr, I lv, I lf, I lt] 24)).heap.size = w3.heap.size + 1 := by simp
  have hC4 := hC3.bl hal
  have hG4 := OwnB.bl (sz := 5) hG3 hal
  have hb4 := hb3.tr hal
  have hyl : ¬ ks1 w3.heap.size := fun h => by have := (hbd1 _ h).2; omega
  obtain ⟨w4, hw4⟩ : ∃ z, w3.alloc (.cells #[I ls, I lr, I lv, I lf, I lt] 24) = z := ⟨_, rfl⟩
  rw [hw4] at hL hC4 hG4 hb4 hs4
  obtain ⟨y, hy⟩ : ∃ z, w3.heap.size = z := ⟨_, rfl⟩
  rw [hy] at hL hbd1 hs4 hyl
  have hw4' : w3.alloc (.cells #[Value.int .i64 ls, Value.int .i64 lr, Value.int .i64 lv, Value.int .i64 lf, Value.int .i64 lt] 24) = w4 := hw4
  obtain ⟨aG, gG, cG, rfl, -, -, -, hRG⟩ := hG4.row (by decide)
  clear hw4 hG4 hG3 hC3 hb3 hal
  have CK := fun w' (hb : Bl w4 w') i (hi : i < G.length) => check_any (hC4.bl hb) (by omega) (by rw [List.length_append]; simp; omega) (G.getD i c0) (G.getD i c0).v t (hok2.out _ (getD_mem G i c0 hi))
  obtain ⟨pf, hpf⟩ : ∃ f : Crt → Int, (fun x => chkE U (G ++ [⟨ls, lr, lv, lf, lt⟩]) S x x.v t) = f := ⟨_, rfl⟩
  have hpf' : ∀ x, chkE U (G ++ [⟨ls, lr, lv, lf, lt⟩]) S x x.v t = pf x := fun x => by rw [← hpf]
  simp only [hpf'] at CK
  have hsn := fun k hk => filter_snoc (fun x => pf x == 0) G k hk
  have hfl : ∀ k, ((G.take k).filter (fun x => pf x == 0)).length ≤ k := fun k => Nat.le_trans (List.length_filter_le _ _) (by rw [List.length_take]; omega)
  obtain ⟨FF, hFF⟩ : ∃ f : Nat → List Crt, (fun k => (G.take k).filter (fun x => pf x == 0)) = f := ⟨_, rfl⟩
  have hFF' : ∀ k, (G.take k).filter (fun x => pf x == 0) = FF k := fun k => by rw [← hFF]
  simp only [hFF'] at hsn hfl
  have hF0 : FF 0 = [] := by rw [← hFF' 0]; rfl
  obtain ⟨N, hN⟩ : ∃ z, G.length = z := ⟨_, rfl⟩
  rw [hN] at hl3 ⊢
  simp only [hN] at CK hsn
  have hFm : ∀ x ∈ FF N, x ∈ G ∧ pf x = 0 := fun x hx => by
    rw [← hFF' N, ← hN, List.take_length] at hx
    have := List.mem_filter.1 hx
    exact ⟨this.1, by simpa using this.2⟩
  replace hL := Lib.hid hL
  replace hC4 := Lib.hid hC4
  replace hb4 := Lib.hid hb4
  replace hRG := Lib.hid hRG
  replace CK := Lib.hid CK
  replace hsn := Lib.hid hsn
  replace hfl := Lib.hid hfl
  replace hF0 := Lib.hid hF0
  replace hN := Lib.hid hN
  replace hFm := Lib.hid hFm
  replace hpf' := Lib.hid hpf'
  replace hbd1 := Lib.hid hbd1
  clear hpf hFF hFF'
  go_wp2_with fail
  go_loopw [13, 14] (fun o i wr => ∃ k : Nat, k ≤ N ∧ i = I k ∧ OwnB cB 5 24 wr w4.heap.size o (FF k) ∧ Bl w4 wr) (fun _ i _ => N - (intOf i).toNat)
  case atStart => exact ⟨0, by omega, rfl, by rw [hF0.out]; exact OwnB.nil _ _ _, Bl.rfl' _⟩
  case round =>
    obtain ⟨k, hk, rfl, hown, hbr⟩ := hrel
    by_cases hlt : k < N
    · have hbd := hbr.dr
      obtain ⟨rfl, -⟩ := (hRG.out.bl hbd).c0 cB_len c0 k (by rw [hN.out]; exact hlt)
      have hcel := fun w' (hb : Bl w4 w') => ((hRG.out.bl hb).c0 cB_len c0 k (by rw [hN.out]; exact hlt)).2
      have CKk := CK.out _ hbd k hlt
      have hs1 := hsn.out k hlt
      have hlk := hfl.out k
      obtain ⟨x, hx⟩ : ∃ z, G.getD k c0 = z := ⟨_, rfl⟩
      simp only [hx] at hcel CKk hs1
      obtain ⟨ev, hev⟩ : ∃ z, pf x = z := ⟨_, rfl⟩
      rw [hev] at CKk hs1
      obtain ⟨xs, xr, xv, xf, xt⟩ := x
      have hS : ∀ w', Bl w4 w' → w'.cell? ⟨gG, k * 5, none⟩ = some (I xs) ∧ w'.cell? ⟨gG, k * 5 + 1, none⟩ = some (I xr) ∧ w'.cell? ⟨gG, k * 5 + 2, none⟩ = some (I xv) ∧ w'.cell? ⟨gG, k * 5 + 3, none⟩ = some (I xf) ∧ w'.cell? ⟨gG, k * 5 + 4, none⟩ = some (I xt) := fun w' hb =>
        ⟨hcel w' hb 0 (by decide), hcel w' hb 1 (by decide), hcel w' hb 2 (by decide), hcel w' hb 3 (by decide), hcel w' hb 4 (by decide)⟩
      have hown := OwnB.bl (sz := 5) hown (Bl.rfl' wr).dr
      obtain ⟨eb, heb⟩ : ∃ b, (ev == 0) = b := ⟨_, rfl⟩
      rw [heb] at hs1
      replace hbd := Lib.hid hbd
      replace hS := Lib.hid hS
      replace CKk := Lib.hid CKk
      replace hs1 := Lib.hid hs1
      replace hown := Lib.hid hown
      clear hcel hx hev hbr
      go_wp2_with fail
      refine wp_region_held_drew (S := fun w' => w'.cell? ⟨gG, k * 5, none⟩ = some (I xs) ∧ w'.cell? ⟨gG, k * 5 + 1, none⟩ = some (I xr) ∧ w'.cell? ⟨gG, k * 5 + 2, none⟩ = some (I xv) ∧ w'.cell? ⟨gG, k * 5 + 3, none⟩ = some (I xf) ∧ w'.cell? ⟨gG, k * 5 + 4, none⟩ = some (I xt)) (by kernel_rfl) ?_ (fun hHeld => ?_)
      · exact hS.out _ hbd.out
      refine wpAnyH_take (i := 0) (v := ?v0_1) rfl (by kernel_rfl) (by kernel_rfl) (by kernel_rfl) (fun _ _ _ h => h) (Or.inl ⟨by rfl, ?y0_1⟩) hHeld ?r0_1
      case y0_1 => (intro w hSw; (try dsimp only at hSw); go_split_ands; go_simp; try with_reducible rfl)
      try simp only [List.getElem_toArray, List.getElem_cons_succ, List.getElem_cons_zero, Act.put, List.setIfInBounds_toArray, List.set_cons_zero, List.set_cons_succ]
      refine wpAnyH_take (i := 1) (v := ?v1_2) rfl (by kernel_rfl) (by kernel_rfl) (by kernel_rfl) (fun _ _ _ h => h) (Or.inl ⟨by rfl, ?y1_2⟩) hHeld ?r1_2
      case y1_2 => (intro w hSw; (try dsimp only at hSw); go_split_ands; go_simp; try with_reducible rfl)
      try simp only [List.getElem_toArray, List.getElem_cons_succ, List.getElem_cons_zero, Act.put, List.setIfInBounds_toArray, List.set_cons_zero, List.set_cons_succ]
      refine wpAnyH_take (i := 2) (v := ?v2_3) rfl (by kernel_rfl) (by kernel_rfl) (by kernel_rfl) (fun _ _ _ h => h) (Or.inl ⟨by rfl, ?y2_3⟩) hHeld ?r2_3
      case y2_3 => (intro w hSw; (try dsimp only at hSw); go_split_ands; go_simp; try with_reducible rfl)
      try simp only [List.getElem_toArray, List.getElem_cons_succ, List.getElem_cons_zero, Act.put, List.setIfInBounds_toArray, List.set_cons_zero, List.set_cons_succ]
      refine wpAnyH_take (i := 3) (v := ?v3_4) rfl (by kernel_rfl) (by kernel_rfl) (by kernel_rfl) (fun _ _ _ h => h) (Or.inl ⟨by rfl, ?y3_4⟩) hHeld ?r3_4
      case y3_4 => (intro w hSw; (try dsimp only at hSw); go_split_ands; go_simp; try with_reducible rfl)
      try simp only [List.getElem_toArray, List.getElem_cons_succ, List.getElem_cons_zero, Act.put, List.setIfInBounds_toArray, List.set_cons_zero, List.set_cons_succ]
      refine wpAnyH_take (i := 4) (v := ?v4_5) rfl (by kernel_rfl) (by kernel_rfl) (by kernel_rfl) (fun _ _ _ h => h) (Or.inl ⟨by rfl, ?y4_5⟩) hHeld ?r4_5
      case y4_5 => (intro w hSw; (try dsimp only at hSw); go_split_ands; go_simp; try with_reducible rfl)
      try simp only [List.getElem_toArray, List.getElem_cons_succ, List.getElem_cons_zero, Act.put, List.setIfInBounds_toArray, List.set_cons_zero, List.set_cons_succ]
      refine wpAnyH_take (i := 5) (v := ?v5_6) rfl (by kernel_rfl) (by kernel_rfl) (by kernel_rfl) (fun _ _ _ h => h) (Or.inl ⟨by rfl, ?y5_6⟩) hHeld ?r5_6
      case y5_6 => (intro w hSw; (try dsimp only at hSw); go_split_ands; go_simp; try with_reducible rfl)
      try simp only [List.getElem_toArray, List.getElem_cons_succ, List.getElem_cons_zero, Act.put, List.setIfInBounds_toArray, List.set_cons_zero, List.set_cons_succ]
      refine wpAnyH_take (i := 6) (v := ?v6_7) rfl (by kernel_rfl) (by kernel_rfl) (by kernel_rfl) (fun _ _ _ h => h) (Or.inl ⟨by rfl, ?y6_7⟩) hHeld ?r6_7
      case y6_7 => (intro w hSw; (try dsimp only at hSw); go_split_ands; go_simp; try with_reducible rfl)
      try simp only [List.getElem_toArray, List.getElem_cons_succ, List.getElem_cons_zero, Act.put, List.setIfInBounds_toArray, List.set_cons_zero, List.set_cons_succ]
      refine wpAnyH_take (i := 7) (v := ?v7_8) rfl (by kernel_rfl) (by kernel_rfl) (by kernel_rfl) (fun _ _ _ h => h) (Or.inl ⟨by rfl, ?y7_8⟩) hHeld ?r7_8
      case y7_8 => (intro w hSw; (try dsimp only at hSw); go_split_ands; go_simp; try with_reducible rfl)
      try simp only [List.getElem_toArray, List.getElem_cons_succ, List.getElem_cons_zero, Act.put, List.setIfInBounds_toArray, List.set_cons_zero, List.set_cons_succ]
      refine wpAnyH_take (i := 8) (v := ?v8_9) rfl (by kernel_rfl) (by kernel_rfl) (by kernel_rfl) (fun _ _ _ h => h) (Or.inl ⟨by rfl, ?y8_9⟩) hHeld ?r8_9
      case y8_9 => (intro w hSw; (try dsimp only at hSw); go_split_ands; go_simp; try with_reducible rfl)
      try simp only [List.getElem_toArray, List.getElem_cons_succ, List.getElem_cons_zero, Act.put, List.setIfInBounds_toArray, List.set_cons_zero, List.set_cons_succ]
      refine wpAnyH_take (i := 9) (v := ?v9_10) rfl (by kernel_rfl) (by kernel_rfl) (by kernel_rfl) (fun _ _ _ h => h) (Or.inl ⟨by rfl, ?y9_10⟩) hHeld ?r9_10
      case y9_10 => (intro w hSw; (try dsimp only at hSw); go_split_ands; go_simp; try with_reducible rfl)
      try simp only [List.getElem_toArray, List.getElem_cons_succ, List.getElem_cons_zero, Act.put, List.setIfInBounds_toArray, List.set_cons_zero, List.set_cons_succ]
      refine wpAnyH_take (i := 10) (v := ?v10_11) rfl (by kernel_rfl) (by kernel_rfl) (by kernel_rfl) (fun _ _ _ h => h) (Or.inl ⟨by rfl, ?y10_11⟩) hHeld ?r10_11
      case y10_11 => (intro w hSw; (try dsimp only at hSw); go_split_ands; go_simp; try with_reducible rfl)
      try simp only [List.getElem_toArray, List.getElem_cons_succ, List.getElem_cons_zero, Act.put, List.setIfInBounds_toArray, List.set_cons_zero, List.set_cons_succ]
      refine wpAnyH_ready (rs := [11]) (by kernel_rfl) (by simp) ?_
      refine AllReadyH.cons rfl (fun K hK => ?_) AllReadyH.nil
      have hHeld' := hHeld
      try dsimp only at hHeld'
      go_split_ands
      go_simp
      first | with_reducible refine (CKk.out).mono ?_ | refine (CKk.out).mono ?_
      rintro e w5 ⟨rfl, hb5⟩
      have hbe := Lib.hid (hbd.out.tr hb5)
      have hown := Lib.hid (OwnB.bl (sz := 5) hown.out hb5)
      refine hK.out _ _ ?_ (fun hHeld => ?_)
      · exact hS.out _ hbe.out
      clear hK K
      try simp only [List.getElem_toArray, List.getElem_cons_succ, List.getElem_cons_zero, Act.put, List.setIfInBounds_toArray, List.set_cons_zero, List.set_cons_succ]
      refine wpAnyH_take (i := 12) (v := ?v12_12) rfl (by kernel_rfl) (by kernel_rfl) (by kernel_rfl) (fun _ _ _ h => h) (Or.inl ⟨by rfl, ?y12_12⟩) hHeld ?r12_12
      case y12_12 => (intro w hSw; (try dsimp only at hSw); go_split_ands; go_simp; try with_reducible rfl)
      try simp only [List.getElem_toArray, List.getElem_cons_succ, List.getElem_cons_zero, Act.put, List.setIfInBounds_toArray, List.set_cons_zero, List.set_cons_succ]
      refine wpAnyH_done (by kernel_rfl) ?_ _
      obtain ⟨q0, q1, q2, q3, q4⟩ := hS.out _ hbe.out
      cases eb with
      | false =>
        go_wp2_with fail
        go_roundw
        case rel => exact ⟨k + 1, by omega, by go_num, by rw [hs1.out]; exact hown.out, hbe.out⟩
        case measure => simp [intOf] <;> omega
      | true =>
        have hbs := hbe.out.size
        have hown1 := hown.out
        unfold OwnB at hown1
        replace hown1 := Lib.hid hown1
        go_wp2_with (at_builtin; refine wpList_append_rec rfl _ _ 26 rfl w4.heap.size 24 iu (.agg #[I 0, I 0, I 0, I 0, I 0]) 5 40 Try.underlying26 hiu zu0 zu1 zu2 rfl (by decide) _ _ _ rfl hown1.out #[I xs, I xr, I xv, I xf, I xt] _ rfl (by intro u hu; simp at hu; rcases hu with rfl | rfl | rfl | rfl | rfl <;> rfl) 1 rfl (by omega) (by omega) (by omega) ?_)
        intro b' cap' w7 hown' hgrow hbn
        have hb7 := hbe.out.grown hgrow (fun q hq => (hown1.out.lt q hq).1)
        replace hown' := Lib.hid hown'
        replace hb7 := Lib.hid hb7
        clear hgrow hbn hown1 hown
        go_wp2_with fail
        go_roundw
        case rel => exact ⟨k + 1, by omega, by go_num, by rw [hs1.out]; unfold OwnB; simp only [if_true, List.length_append, flatB_snoc]; rw [hs4]; exact hown'.out, hb7.out⟩
        case measure => simp [intOf] <;> omega
    · obtain rfl : N = k := by omega
      have hlk := hfl.out N
      clear hF0
      obtain ⟨F, hF⟩ : ∃ F, FF N = F := ⟨_, rfl⟩
      rw [hF] at hown hlk
      have hFm := hFm.out
      rw [hF] at hFm
      have hC5 := hC4.out.bl hbr
      have hL5 := blk_bl hL.out hbr
      have hb5 := hb4.out.tr hbr
      have hltF := World.ownsRow.lt hown
      have RT := roots_any hC5 (by omega) at_
      have hRl := rootsTo_len U at_ (U.length + 1)
      have hs5 := hbr.size
      obtain ⟨R, hR⟩ : ∃ R, rootsTo U at_ (U.length + 1) = R := ⟨_, rfl⟩
      have hOV := fun x (h : chkE U (G ++ [⟨ls, lr, lv, lf, lt⟩]) S x x.v t = 0) X => over_fine (en := t + kk) X h hat1
      simp only [hR] at hOV
      rw [hR] at RT hRl
      replace hFm := Lib.hid hFm
      replace hC5 := Lib.hid hC5
      replace hL5 := Lib.hid hL5
      replace hb5 := Lib.hid hb5
      replace RT := Lib.hid RT
      replace hltF := Lib.hid hltF
      replace hown := Lib.hid hown
      replace hOV := Lib.hid hOV
      clear hC4 hL hb4 hRG CK hsn hfl hF hbr hR
      go_wp2_with fail
      first | with_reducible refine (RT.out).mono ?_ | refine (RT.out).mono ?_
      rintro e w6 ⟨vr, rfl, hRo, hb6⟩
      have hC6 := hC5.out.bl hb6
      have hL6 := blk_bl hL5.out hb6
      have hF6 := OwnB.bl (sz := 5) hown.out hb6
      have hltF := World.ownsRow.lt hF6
      have hltR := World.ownsRow.lt hRo
      have hb6' := hb5.out.tr hb6
      have hs6 := hb6.size
      have RO := rotate_any hC6 (by omega) t kk (by omega) (by omega) (by omega) (by omega)
      unfold RotateD at RO
      obtain ⟨en, hen⟩ : ∃ z, t + kk = z := ⟨_, rfl⟩
      rw [hen] at RO
      simp only [hen] at hOV
      obtain ⟨nn, hnn⟩ : ∃ z, (U.length : Int) + 2 = z := ⟨_, rfl⟩
      rw [hnn] at RO
      have hnk6 : ∀ q, q < w6.heap.size → w4.heap.size ≤ q → ¬ ks1 q := fun q h1 h2 h3 => by have := (hbd1.out q h3).2; omega
      have hy6 : y < w6.heap.size := by omega
      replace hL6 := Lib.hid hL6
      replace hF6 := Lib.hid hF6
      replace hRo := Lib.hid hRo
      replace hb6' := Lib.hid hb6'
      replace RO := Lib.hid RO
      replace hltF := Lib.hid hltF
      replace hltR := Lib.hid hltR
      replace hnk6 := Lib.hid hnk6
      clear hb6 RT hC5 hL5 hown hb5 hC6
      go_wp2_with fail
      refine RO.out.mono ?_
      rintro e w7 ⟨rfl, hC7, hT7⟩
      have hL7 := hT7.var hL6.out hyl
      have hF7 := own_tch hF6.out hT7 (fun q hq => hnk6.out q (hltF.out q hq).2 (hltF.out q hq).1)
      have hR7 := own_tch hRo.out hT7 (fun q hq => hnk6.out q (hltR.out q hq).2 (by have := (hltR.out q hq).1; omega))
      have hb7 := hb6'.out.tch hT7 (fun q hq => (hbd1.out q hq).1)
      have hs7 := hT7.size
      have hU2 : (rotU U en).length = U.length + 1 := rotU_len U en
      have hC7 : CA (grw ks1 w6 w7) w7 p (rotU U en) (G ++ [⟨ls, lr, lv, lf, lt⟩]) S := hC7
      have IS := issue_any hC7 (by omega) (by rw [List.length_append, hN.out]; simp; omega) 2 t 1000 (by omega) (by omega) (by omega) (by omega)
      unfold IssueD at IS
      rw [show (((rotU U en).length : Nat) : Int) + 1 = nn by rw [hU2]; omega] at IS
      have hfs0 : ((G ++ [(⟨ls, lr, lv, lf, lt⟩ : Crt)]).length : Int) = (N : Int) + 1 := by rw [List.length_append, hN.out]; simp
      obtain ⟨fs, hfs⟩ : ∃ z, ((G ++ [(⟨ls, lr, lv, lf, lt⟩ : Crt)]).length : Int) + 1 = z := ⟨_, rfl⟩
      rw [hfs] at IS
      obtain ⟨ft, hft⟩ : ∃ z, t + 1000 = z := ⟨_, rfl⟩
      rw [hft] at IS
      have hg2 : ∀ k, grw ks1 w6 w7 k → w.heap.size ≤ k := fun k hk => by
        rcases hk.1 with h | h
        · exact (hbd1.out k h).1
        · have := hb6'.out.size; omega
      replace hL7 := Lib.hid hL7
      replace hF7 := Lib.hid hF7
      replace hR7 := Lib.hid hR7
      replace hb7 := Lib.hid hb7
      replace IS := Lib.hid IS
      replace hg2 := Lib.hid hg2
      replace hfs := Lib.hid hfs
      replace hnn := Lib.hid hnn
      replace hen := Lib.hid hen
      replace hft := Lib.hid hft
      have hen' := hen.out
      clear RO hT7 hL6 hF6 hRo hb6'
      go_wp2_with fail
      refine IS.out.mono ?_
      rintro e w8 ⟨rfl, hC8, hT8⟩
      have hL8 := hT8.var hL7.out (grw_not hyl hy6)
      have hF8 := own_tch hF7.out hT8 (fun q hq => grw_not (hnk6.out q (hltF.out q hq).2 (hltF.out q hq).1) (hltF.out q hq).2)
      have hR8 := own_tch hR7.out hT8 (fun q hq => grw_not (hnk6.out q (hltR.out q hq).2 (by have := (hltR.out q hq).1; omega)) (hltR.out q hq).2)
      have hb8 := hb7.out.tch hT8 hg2.out
      have hX := heap_alloc_new w8 (.cells #[I fs, I nn, I 2, I t, I ft] 24)
      have hal := (Bl.rfl' w8).al (.cells #[I fs, I nn, I 2, I t, I ft] 24)
      have hC9 := hC8.bl hal
      have hL9 := blk_bl hL8 hal
      have hF9 := OwnB.bl (sz := 5) hF8 hal
      have hR9 := OwnB.bl (sz := 1) hR8 hal
      have hb9 := hb8.tr hal
      obtain ⟨w9, hw9⟩ : ∃ z, w8.alloc (.cells #[I fs, I nn, I 2, I t, I ft] 24) = z := ⟨_, rfl⟩
      rw [hw9] at hX hC9 hL9 hF9 hR9 hb9
      obtain ⟨y2, hy2⟩ : ∃ z, w8.heap.size = z := ⟨_, rfl⟩
      rw [hy2] at hX
      have hw9' : w8.alloc (.cells #[Value.int .i64 fs, Value.int .i64 nn, Value.int .i64 2, Value.int .i64 t, Value.int .i64 ft] 24) = w9 := hw9
      have okF : okCrt ⟨fs, nn, 2, t, ft⟩ := by
        have e1 := hfs.out; have e2 := hnn.out
        rw [hfs0] at e1
        refine ⟨⟨?_, ?_⟩, ⟨?_, ?_⟩⟩ <;> simp only <;> omega
      have okL : okCrt ⟨ls, lr, lv, lf, lt⟩ := by
        have e1 := hlg.out
        rw [hN.out] at e1
        simp only [Crt.mk.injEq] at e1
        refine ⟨⟨?_, ?_⟩, ⟨?_, ?_⟩⟩ <;> simp only <;> omega
      obtain ⟨G2, hG2⟩ : ∃ z, G ++ [(⟨ls, lr, lv, lf, lt⟩ : Crt)] ++ [⟨fs, nn, 2, t, ft⟩] = z := ⟨_, rfl⟩
      have hG2l : G2.length ≤ 1000 := by rw [← hG2, List.length_append, List.length_append, hN.out]; simp; omega
      have nw : ∀ now, t ≤ now → now < ft → chkE (rotU U en) G2 S ⟨fs, nn, 2, t, ft⟩ 2 now = 0 := fun now h1 h2 => by
        rw [← hG2]
        exact over_new (c := ⟨fs, nn, 2, t, ft⟩) (by have := hfs.out; simp only; omega) (by have := hnn.out; simp only; rw [hU2]; omega) (fun x hx => by have := hrv.out x hx; rw [hN.out] at this; omega) h1 h2
      have ot : chkE (rotU U en) G2 S ⟨fs, nn, 2, t, ft⟩ 1 t = 20 := over_other (by simp)
      have lo := over_long (U := U) (G := G) (S := S) (c := ⟨ls, lr, lv, lf, lt⟩) (t := t) (at_ := at_) (en := en) [⟨fs, nn, 2, t, ft⟩] (by have e1 := hlg.out; simp only [Crt.mk.injEq] at e1; simp only; omega) (by have e1 := hlg.out; simp only [Crt.mk.injEq] at e1; simp only; omega) hrv.out (by have e1 := hlg.out; simp only [Crt.mk.injEq] at e1; simp only; omega) (by have e1 := hlg.out; simp only [Crt.mk.injEq] at e1; simp only; omega)
      rw [hG2] at hC9 lo
      have hlv : lv = 1 := by have e1 := hlg.out; simp only [Crt.mk.injEq] at e1; omega
      rw [hlv] at lo hL9
      have hn1 := nw t (by omega) (by have := hft.out; omega)
      have hn2 := nw at_ hat1 (by have := hft.out; omega)
      have D1 := fun w' (hb : Bl w9 w') => check_any (hC9.bl hb) (by omega) hG2l ⟨fs, nn, 2, t, ft⟩ 2 t okF
      have D2 := fun w' (hb : Bl w9 w') => check_any (hC9.bl hb) (by omega) hG2l ⟨fs, nn, 2, t, ft⟩ 2 at_ okF
      have D3 := fun w' (hb : Bl w9 w') => check_any (hC9.bl hb) (by omega) hG2l ⟨fs, nn, 2, t, ft⟩ 1 t okF
      rw [hlv] at okL
      have D4 := fun w' (hb : Bl w9 w') => check_any (hC9.bl hb) (by omega) hG2l ⟨ls, lr, 1, lf, lt⟩ 1 at_ okL
      simp only at lo
      rw [hn1] at D1; rw [hn2] at D2; rw [ot] at D3
      obtain ⟨e4, he4⟩ : ∃ z, chkE (rotU U en) G2 S ⟨ls, lr, 1, lf, lt⟩ 1 at_ = z := ⟨_, rfl⟩
      rw [he4] at D4 lo
      have D5 := fun w' (hb : Bl w9 w') x (hx : okCrt x) => check_any (hC9.bl hb) (by omega) hG2l x x.v at_ hx
      have hOV2 : ∀ x ∈ F, okCrt x ∧ (chkE (rotU U en) G2 S x x.v at_ == 0) = (decide (at_ < en) && decide (at_ < x.t) && decide (x.r ∈ R)) := fun x hx => by
        obtain ⟨h1, h2⟩ := hFm.out x hx
        refine ⟨hok2.out x h1, ?_⟩
        rw [← hG2]
        exact hOV.out x (by rw [hpf'.out]; exact h2) [⟨fs, nn, 2, t, ft⟩]
      obtain ⟨x0, x1, x2, x3, x4⟩ := five hX
      replace hX := Lib.hid hX
      replace hL9 := Lib.hid hL9
      replace hF9 := Lib.hid hF9
      replace hR9 := Lib.hid hR9
      replace hb9 := Lib.hid hb9
      replace D1 := Lib.hid D1
      replace D2 := Lib.hid D2
      replace D3 := Lib.hid D3
      replace D4 := Lib.hid D4
      replace D5 := Lib.hid D5
      replace hOV2 := Lib.hid hOV2
      replace lo := Lib.hid lo
      clear IS hT8 hC8 hC9 hL8 hF8 hR8 hb8 hal hw9 hL7 hF7 hR7 hb7 hC7 hg2 nw ot hn1 hn2 he4 hG2 okF okL hlg hfs hnn hft hOV hFm
      go_wp2_with fail
      first | with_reducible refine (D1.out _ (Bl.rfl' _)).mono ?_ | refine (D1.out _ (Bl.rfl' _)).mono ?_
      rintro e w10 ⟨rfl, hb10⟩
      obtain ⟨x0, x1, x2, x3, x4⟩ := five (blk_bl hX.out hb10)
      replace hb10 := Lib.hid hb10
      go_wp2_with fail
      first | with_reducible refine (D2.out _ hb10.out).mono ?_ | refine (D2.out _ hb10.out).mono ?_
      rintro e w11 ⟨rfl, hb11⟩
      have hb11 := hb10.out.tr hb11
      obtain ⟨x0, x1, x2, x3, x4⟩ := five (blk_bl hX.out hb11)
      replace hb11 := Lib.hid hb11
      clear hb10
      go_wp2_with fail
      first | with_reducible refine (D3.out _ hb11.out).mono ?_ | refine (D3.out _ hb11.out).mono ?_
      rintro e w12 ⟨rfl, hb12⟩
      have hb12 := hb11.out.tr hb12
      obtain ⟨y0, y1, y2', y3, y4⟩ := five (blk_bl hL9.out hb12)
      replace hb12 := Lib.hid hb12
      clear hb11 x0 x1 x2 x3 x4
      go_wp2_with fail
      first | with_reducible refine (D4.out _ hb12.out).mono ?_ | refine (D4.out _ hb12.out).mono ?_
      rintro e w13 ⟨rfl, hb13⟩
      have hb13 := hb12.out.tr hb13
      clear hb12 y0 y1 y2' y3 y4 D1 D2 D3 D4
      obtain ⟨aF, gF, cF, rfl, -, -, -, hRF⟩ := hF9.out.row (by decide)
      obtain ⟨aR, gR, cR, rfl, -, -, -, hRR⟩ := hR9.out.row (by decide)
      obtain ⟨nf, hnf⟩ : ∃ z, F.length = z := ⟨_, rfl⟩
      obtain ⟨nr, hnr⟩ : ∃ z, R.length = z := ⟨_, rfl⟩
      rw [hnf] at hlk ⊢
      rw [hnr] at hRl ⊢
      have hTa : R.take nr = R := by rw [← hnr]; exact List.take_length
      obtain ⟨db, hdb⟩ : ∃ b, decide (at_ < en) = b := ⟨_, rfl⟩
      have lo := lo.out
      rw [hdb] at lo
      simp only [hdb] at hOV2
      replace hnf := Lib.hid hnf
      replace hnr := Lib.hid hnr
      replace hTa := Lib.hid hTa
      replace hRF := Lib.hid hRF
      replace hRR := Lib.hid hRR
      replace hb13 := Lib.hid hb13
      clear hF9 hR9 hX hL9
      cases db with
      | true =>
        go_wp2_with fail
        go_loopw [18] (fun i wz => ∃ k : Nat, k ≤ nf ∧ i = I k ∧ Bl w9 wz) (fun i _ => nf - (intOf i).toNat)
        case atStart => exact ⟨0, by omega, rfl, hb13.out⟩
        case round =>
          obtain ⟨k, hk, rfl, hbz⟩ := hrel
          by_cases hlt2 : k < nf
          · have hc := ((hRF.out.bl hbz).c0 cB_len c0 k (by rw [hnf.out]; exact hlt2)).2
            obtain ⟨rfl, -⟩ := (hRF.out.bl hbz).c0 cB_len c0 k (by rw [hnf.out]; exact hlt2)
            have q0 := hc 0 (by decide); have q1 := hc 1 (by decide); have q2 := hc 2 (by decide); have q3 := hc 3 (by decide); have q4 := hc 4 (by decide)
            simp only [Nat.add_zero, List.getElem?_cons_zero, List.getElem?_cons_succ] at q0 q1 q2 q3 q4
            obtain ⟨okx, hovx⟩ := hOV2.out _ (getD_mem F k c0 (by rw [hnf.out]; exact hlt2))
            have D5x := fun w' hb => D5.out w' hb _ okx
            obtain ⟨x, hx⟩ : ∃ z, F.getD k c0 = z := ⟨_, rfl⟩
            rw [hx] at q0 q1 q2 q3 q4 hovx
            simp only [hx] at D5x
            obtain ⟨xs, xr, xv, xf, xt⟩ := x
            simp only at q0 q1 q2 q3 q4 hovx D5x
            have hZ := heap_alloc_new wr (.cells #[I xs, I xr, I xv, I xf, I xt] 24)
            have hbz1 := hbz.al (.cells #[I xs, I xr, I xv, I xf, I xt] 24)
            have hTk := fun j hj => mem_take_succ_i R xr j hj
            have hTz : decide (xr ∈ R.take 0) = false := by simp
            simp only [hnr.out] at hTk
            obtain ⟨ex, hex⟩ : ∃ z, chkE (rotU U en) G2 S ⟨xs, xr, xv, xf, xt⟩ xv at_ = z := ⟨_, rfl⟩
            rw [hex] at hovx
            simp only [hex] at D5x
            obtain ⟨wx, hwx⟩ : ∃ z, wr.alloc (.cells #[I xs, I xr, I xv, I xf, I xt] 24) = z := ⟨_, rfl⟩
            rw [hwx] at hZ hbz1
            obtain ⟨yz, hyz⟩ : ∃ z, wr.heap.size = z := ⟨_, rfl⟩
            rw [hyz] at hZ
            have hwx' : wr.alloc (.cells #[Value.int .i64 xs, Value.int .i64 xr, Value.int .i64 xv, Value.int .i64 xf, Value.int .i64 xt] 24) = wx := hwx
            replace hZ := Lib.hid hZ
            replace hbz1 := Lib.hid hbz1
            replace hTk := Lib.hid hTk
            replace hTz := Lib.hid hTz
            replace D5x := Lib.hid D5x
            replace hovx := Lib.hid hovx
            clear hc okx hx hex hbz hwx
            go_wp2_with fail
            go_loopw [20, 21] (fun tv i wz => ∃ j : Nat, j ≤ nr ∧ i = I j ∧ tv = .bool (decide (xr ∈ R.take j)) ∧ Bl wx wz) (fun _ i _ => nr - (intOf i).toNat)
            case atStart => exact ⟨0, by omega, rfl, by rw [hTz.out], Bl.rfl' _⟩
            case round =>
              obtain ⟨j, hj, rfl, rfl, hbj⟩ := hrel
              obtain ⟨y0, y1, y2, y3, y4⟩ := five (blk_bl hZ.out hbj)
              have hbt := hbz1.out.tr hbj
              by_cases hlt3 : j < nr
              · have q0 := ((hRR.out.bl hbt).c0 iB_len 0 j (by rw [hnr.out]; exact hlt3)).2 0 (by decide)
                obtain ⟨rfl, -⟩ := (hRR.out.bl hbt).c0 iB_len 0 j (by rw [hnr.out]; exact hlt3)
                simp only [Nat.mul_one, Nat.add_zero, List.getElem?_cons_zero] at q0
                have ht1 := hTk.out j hlt3
                obtain ⟨rv, hrv'⟩ : ∃ z, R.getD j 0 = z := ⟨_, rfl⟩
                rw [hrv'] at q0 ht1
                obtain ⟨eb, heb⟩ : ∃ b, (rv == xr) = b := ⟨_, rfl⟩
                rw [heb] at ht1
                obtain ⟨tb, htb⟩ : ∃ b, decide (xr ∈ R.take j) = b := ⟨_, rfl⟩
                rw [htb] at ht1 ⊢
                replace ht1 := Lib.hid ht1
                replace hbj := Lib.hid hbj
                clear hrv' htb hbt
                cases tb with
                | true =>
                  go_wp2_with fail
                  go_quiet (fail)
                  go_wp2_with fail
                  go_roundw
                  case rel => exact ⟨j + 1, by omega, by go_num, by rw [ht1.out]; rfl, hbj.out.drn _⟩
                  case measure => simp [intOf] <;> omega
                | false =>
                  go_wp2_with fail
                  go_quiet (fail)
                  go_wp2_with fail
                  go_roundw
                  case rel => exact ⟨j + 1, by omega, by go_num, by rw [ht1.out]; rfl, hbj.out.drn _⟩
                  case measure => simp [intOf] <;> omega
              · obtain rfl : nr = j := by omega
                rw [hTa.out]
                have D6 := D5x.out _ hbt
                have hov := hovx.out
                obtain ⟨wb, hwb⟩ : ∃ b, decide (xr ∈ R) = b := ⟨_, rfl⟩
                obtain ⟨tb, htb⟩ : ∃ b, decide (at_ < xt) = b := ⟨_, rfl⟩
                rw [hwb, htb] at hov
                rw [hwb]
                replace hbt := Lib.hid hbt
                replace D6 := Lib.hid D6
                clear hwb
                cases wb <;> cases tb
                all_goals
                  simp only [Bool.and_true, Bool.and_false, Bool.true_and, Bool.false_and] at hov
                  go_wp2_with fail
                  refine D6.out.mono ?_
                  rintro e w14 ⟨rfl, hb14⟩
                  have hbu := hbt.out.tr hb14
                  obtain ⟨y0, y1, y2, y3, y4⟩ := five (blk_bl hZ.out (hbj.tr hb14))
                  replace hbu := Lib.hid hbu
                  go_wp2_with fail
                  go_roundw
                  case rel => exact ⟨k + 1, by omega, by go_num, hbu.out⟩
                  case measure => simp [intOf] <;> omega
          · obtain rfl : nf = k := by omega
            have hbf := hb9.out.tr hbz
            replace hbf := Lib.hid hbf
            clear hbz
            go_wp2_with fail
            first | with_reducible refine (LV.out _).mono ?_ | refine (LV.out _).mono ?_
            rintro e w15 ⟨rfl, hb15⟩
            have hbg := hbf.out.tr hb15
            go_wp2_with fail
            go_ret
            exact ⟨rfl, hbg⟩
      | false =>
        go_wp2_with fail
        go_loopw [18] (fun i wz => ∃ k : Nat, k ≤ nf ∧ i = I k ∧ Bl w9 wz) (fun i _ => nf - (intOf i).toNat)
        case atStart => exact ⟨0, by omega, rfl, hb13.out⟩
        case round =>
          obtain ⟨k, hk, rfl, hbz⟩ := hrel
          by_cases hlt2 : k < nf
          · have hc := ((hRF.out.bl hbz).c0 cB_len c0 k (by rw [hnf.out]; exact hlt2)).2
            obtain ⟨rfl, -⟩ := (hRF.out.bl hbz).c0 cB_len c0 k (by rw [hnf.out]; exact hlt2)
            have q0 := hc 0 (by decide); have q1 := hc 1 (by decide); have q2 := hc 2 (by decide); have q3 := hc 3 (by decide); have q4 := hc 4 (by decide)
            simp only [Nat.add_zero, List.getElem?_cons_zero, List.getElem?_cons_succ] at q0 q1 q2 q3 q4
            obtain ⟨okx, hovx⟩ := hOV2.out _ (getD_mem F k c0 (by rw [hnf.out]; exact hlt2))
            have D5x := fun w' hb => D5.out w' hb _ okx
            obtain ⟨x, hx⟩ : ∃ z, F.getD k c0 = z := ⟨_, rfl⟩
            rw [hx] at q0 q1 q2 q3 q4 hovx
            simp only [hx] at D5x
            obtain ⟨xs, xr, xv, xf, xt⟩ := x
            simp only at q0 q1 q2 q3 q4 hovx D5x
            have hZ := heap_alloc_new wr (.cells #[I xs, I xr, I xv, I xf, I xt] 24)
            have hbz1 := hbz.al (.cells #[I xs, I xr, I xv, I xf, I xt] 24)
            have hTk := fun j hj => mem_take_succ_i R xr j hj
            have hTz : decide (xr ∈ R.take 0) = false := by simp
            simp only [hnr.out] at hTk
            obtain ⟨ex, hex⟩ : ∃ z, chkE (rotU U en) G2 S ⟨xs, xr, xv, xf, xt⟩ xv at_ = z := ⟨_, rfl⟩
            rw [hex] at hovx
            simp only [hex] at D5x
            obtain ⟨wx, hwx⟩ : ∃ z, wr.alloc (.cells #[I xs, I xr, I xv, I xf, I xt] 24) = z := ⟨_, rfl⟩
            rw [hwx] at hZ hbz1
            obtain ⟨yz, hyz⟩ : ∃ z, wr.heap.size = z := ⟨_, rfl⟩
            rw [hyz] at hZ
            have hwx' : wr.alloc (.cells #[Value.int .i64 xs, Value.int .i64 xr, Value.int .i64 xv, Value.int .i64 xf, Value.int .i64 xt] 24) = wx := hwx
            replace hZ := Lib.hid hZ
            replace hbz1 := Lib.hid hbz1
            replace hTk := Lib.hid hTk
            replace hTz := Lib.hid hTz
            replace D5x := Lib.hid D5x
            replace hovx := Lib.hid hovx
            clear hc okx hx hex hbz hwx
            go_wp2_with fail
            go_loopw [20, 21] (fun tv i wz => ∃ j : Nat, j ≤ nr ∧ i = I j ∧ tv = .bool (decide (xr ∈ R.take j)) ∧ Bl wx wz) (fun _ i _ => nr - (intOf i).toNat)
            case atStart => exact ⟨0, by omega, rfl, by rw [hTz.out], Bl.rfl' _⟩
            case round =>
              obtain ⟨j, hj, rfl, rfl, hbj⟩ := hrel
              obtain ⟨y0, y1, y2, y3, y4⟩ := five (blk_bl hZ.out hbj)
              have hbt := hbz1.out.tr hbj
              by_cases hlt3 : j < nr
              · have q0 := ((hRR.out.bl hbt).c0 iB_len 0 j (by rw [hnr.out]; exact hlt3)).2 0 (by decide)
                obtain ⟨rfl, -⟩ := (hRR.out.bl hbt).c0 iB_len 0 j (by rw [hnr.out]; exact hlt3)
                simp only [Nat.mul_one, Nat.add_zero, List.getElem?_cons_zero] at q0
                have ht1 := hTk.out j hlt3
                obtain ⟨rv, hrv'⟩ : ∃ z, R.getD j 0 = z := ⟨_, rfl⟩
                rw [hrv'] at q0 ht1
                obtain ⟨eb, heb⟩ : ∃ b, (rv == xr) = b := ⟨_, rfl⟩
                rw [heb] at ht1
                obtain ⟨tb, htb⟩ : ∃ b, decide (xr ∈ R.take j) = b := ⟨_, rfl⟩
                rw [htb] at ht1 ⊢
                replace ht1 := Lib.hid ht1
                replace hbj := Lib.hid hbj
                clear hrv' htb hbt
                cases tb with
                | true =>
                  go_wp2_with fail
                  go_quiet (fail)
                  go_wp2_with fail
                  go_roundw
                  case rel => exact ⟨j + 1, by omega, by go_num, by rw [ht1.out]; rfl, hbj.out.drn _⟩
                  case measure => simp [intOf] <;> omega
                | false =>
                  go_wp2_with fail
                  go_quiet (fail)
                  go_wp2_with fail
                  go_roundw
                  case rel => exact ⟨j + 1, by omega, by go_num, by rw [ht1.out]; rfl, hbj.out.drn _⟩
                  case measure => simp [intOf] <;> omega
              · obtain rfl : nr = j := by omega
                rw [hTa.out]
                have D6 := D5x.out _ hbt
                have hov := hovx.out
                obtain ⟨wb, hwb⟩ : ∃ b, decide (xr ∈ R) = b := ⟨_, rfl⟩
                obtain ⟨tb, htb⟩ : ∃ b, decide (at_ < xt) = b := ⟨_, rfl⟩
                rw [hwb, htb] at hov
                rw [hwb]
                replace hbt := Lib.hid hbt
                replace D6 := Lib.hid D6
                clear hwb
                cases wb <;> cases tb
                all_goals
                  simp only [Bool.and_true, Bool.and_false, Bool.true_and, Bool.false_and] at hov
                  go_wp2_with fail
                  refine D6.out.mono ?_
                  rintro e w14 ⟨rfl, hb14⟩
                  have hbu := hbt.out.tr hb14
                  obtain ⟨y0, y1, y2, y3, y4⟩ := five (blk_bl hZ.out (hbj.tr hb14))
                  replace hbu := Lib.hid hbu
                  go_wp2_with fail
                  go_roundw
                  case rel => exact ⟨k + 1, by omega, by go_num, hbu.out⟩
                  case measure => simp [intOf] <;> omega
          · obtain rfl : nf = k := by omega
            have hbf := hb9.out.tr hbz
            replace hbf := Lib.hid hbf
            clear hbz
            go_wp2_with fail
            first | with_reducible refine (LV.out _).mono ?_ | refine (LV.out _).mono ?_
            rintro e w15 ⟨rfl, hb15⟩
            have hbg := hbf.out.tr hb15
            go_wp2_with fail
            go_ret
            exact ⟨rfl, hbg⟩
end Go.Proofs.Ytajnhjcinpdfhaa.certOver
