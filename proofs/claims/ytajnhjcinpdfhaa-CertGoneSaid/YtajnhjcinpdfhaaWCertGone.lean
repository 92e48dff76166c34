/-
  CertGone is true for every input: what is revoked is of no use from then on, ErrRevoke as long as its root is trusted, and nothing else is touched; it is revoked once. No condition.
-/
import Derived.Test.YtajnhjcinpdfhaaCrJ
namespace Go.Proofs.Ytajnhjcinpdfhaa.certGone
open Go.ChangeShapes Go.WideShapes Go.ChangeAt Go.RowKit
open Go.Proofs.Ytajnhjcinpdfhaa.cert
set_option linter.unusedVariables false
set_option linter.unusedSimpArgs false

theorem chk_rev {U G S c v now} (h : chkE U G S c v now = 22) : c.s ∈ S := by
  unfold chkE at h
  split at h
  · cases h
  · split at h
    · cases h
    · split at h
      · cases h
      · split at h
        · rename_i h'; exact of_decide_eq_true h'
        · split at h <;> cases h
theorem chk_gone {U G S c now} (hg : gvB G c = true) (hs : c.s ∈ S) : chkE U G S c c.v now = if trB U c.r now = true then 22 else 20 := by
  unfold chkE
  rw [if_neg (by rw [hg]; simp), if_neg (by simp)]
  cases trB U c.r now <;> simp [hs]
theorem chk_same {U G S S' c v now} (h : c.s ∈ S' ↔ c.s ∈ S) : chkE U G S' c v now = chkE U G S c v now := by
  unfold chkE
  rw [show decide (c.s ∈ S') = decide (c.s ∈ S) from decide_eq_decide.2 h]
theorem mem_take_succ_i (G : List Int) (c : Int) (k : Nat) (hk : k < G.length) : decide (c ∈ G.take (k + 1)) = (decide (c ∈ G.take k) || (G.getD k 0 == c)) := by
  rw [take_snoc G k 0 hk]
  by_cases h1 : c ∈ G.take k
  · simp [h1]
  · by_cases h2 : G.getD k 0 = c
    · simp only [h2, beq_self_eq_true, Bool.or_true, decide_eq_true_eq, List.mem_append, List.mem_singleton, or_true]
    · have h3 : c ∉ G.take k ++ [G.getD k 0] := by
        rw [List.mem_append, List.mem_singleton]; rintro (h | h)
        · exact h1 h
        · exact h2 h.symm
      rw [decide_eq_false h1, beq_eq_false_iff_ne.2 h2, decide_eq_false h3]; rfl



set_option maxHeartbeats 16000000 in
set_option maxRecDepth 20000 in
theorem walk {w : World} (v0 : Value) (z0 : List Int) (hv0 : IntsAt w v0 z0) (hz0 : i64ok z0) (hm0 : z0.length ≤ maxLen) (wh : Int) (l1 : -9223372036854775808 ≤ wh) (u1 : wh ≤ 9223372036854775807) (la : Int) (l2 : -9223372036854775808 ≤ la) (u2 : la ≤ 9223372036854775807) :
    Calls Try.prog 5 #[v0, .int .i64 wh, .int .i64 la] w fun e w' => e = .returned (.bool true) ∧ Bl w w' := by
  have AC := Lib.hid (acts_any z0 v0 w hv0 hz0 hm0)
  have A0 := Lib.hid (fun w m h1 h2 => around_any wh m w l1 u1 h1 h2)
  have A2 := Lib.hid (fun w => around_any la 61 w l2 u2 (by omega) (by omega))
  have g0 := around_lo la 61 (by omega); have g1 := around_hi la 61 (by omega)
  obtain ⟨o2, ho2⟩ : ∃ z_, (around la 61) = z_ := ⟨_, rfl⟩
  rw [ho2] at A2 g0 g1
  have LV := Lib.hid lives_any
  clear hv0 ho2 l2 u2 hz0 hm0 l1 u1
  go_enter Try.func5, Try.ntmps5
  go_wp2_with fail
  have AC1 := AC.out
  unfold ActsD at AC1
  first | with_reducible refine (AC1).mono ?_ | refine (AC1).mono ?_
  rintro e w1 ⟨va, A, rfl, hAl, hA, hro, hb1⟩
  have PL := played_any A w1 _ va hro hA hAl
  have PM := fun w' (hb : Bl w1 w') => played_any A w' _ va (hro.bl hb) hA hAl
  unfold PlayedD at PL PM
  have hOK := okPS A hA A.length (Nat.le_refl _)
  obtain ⟨hl1, hl2⟩ := playTo_len A A.length
  obtain ⟨s, hs⟩ : ∃ z_, (playTo A A.length) = z_ := ⟨_, rfl⟩
  rw [hs] at PL hOK hl1 hl2
  simp only [hs] at PM
  have hl3 : s.G.length ≤ 16 := by omega
  have hl4 : s.U.length ≤ 16 := by omega
  replace PL := Lib.hid PL
  replace PM := Lib.hid PM
  replace hb1 := Lib.hid hb1
  replace hOK := Lib.hid hOK
  clear AC AC1 hA hs hl1 hl2 hAl hro
  go_wp2_with fail
  first | with_reducible refine (PL.out).mono ?_ | refine (PL.out).mono ?_
  rintro e w2 ⟨p, vo, ks, rfl, hC, hG, hno, hks, hb2⟩
  have PM1 := PM.out w2 hb2
  have hb2 := hb1.out.tr hb2
  have hlt2 := World.ownsRow.lt hG
  have hw1 := hb1.out.size
  replace PM1 := Lib.hid PM1
  replace hC := Lib.hid hC
  replace hG := Lib.hid hG
  replace hno := Lib.hid hno
  replace hks := Lib.hid hks
  replace hb2 := Lib.hid hb2
  replace hlt2 := Lib.hid hlt2
  clear hb1 PL PM
  go_wp2_with fail
  first | with_reducible refine (PM1.out).mono ?_ | refine (PM1.out).mono ?_
  rintro e w3 ⟨r, vo3, qs, rfl, hD, -, -, hqs, hb3⟩
  have hC := hC.out.bl hb3
  have hG := hG.out.bl hb3
  have hb3' := hb2.out.tr hb3
  have hdis : ∀ k, qs k → ¬ ks k := fun k h1 h2 => by have := (hqs k h1).1; have := (hks.out k h2).2; omega
  have hks3 : ∀ k, ks k → w.heap.size ≤ k ∧ k < w3.heap.size := fun k hk => ⟨by have := (hks.out k hk).1; omega, by have := (hks.out k hk).2; have := hb3.size; omega⟩
  obtain ⟨U, G, S, t⟩ := s
  simp only at hC hG hD hl3 hl4 ⊢
  obtain ⟨aG, gG, cG, rfl, -, -, -, hRG⟩ := hG.row (by decide)
  have hok2 : ∀ x ∈ G, okCrt x ∧ gvB G x = true := fun x hx => (mem_gv (s := ⟨U, G, S, t⟩) hOK.out hl3 hl4 hx).symm
  have hOg := hOK.out.g
  simp only at hOg
  have hTt := hOK.out.tm
  simp only at hTt
  have hGb : 0 < G.length → ¬ ks gG := fun h => by
    obtain ⟨rfl, -⟩ := hRG h
    exact hno.out gG rfl
  obtain ⟨N, hN⟩ : ∃ z_, (G.length) = z_ := ⟨_, rfl⟩
  rw [hN] at hl3 hOg hGb ⊢
  replace hC := Lib.hid hC
  replace hD := Lib.hid hD
  replace hRG := Lib.hid hRG
  replace hb3' := Lib.hid hb3'
  replace hN := Lib.hid hN
  replace hok2 := Lib.hid hok2
  replace hOg := Lib.hid hOg
  replace hGb := Lib.hid hGb
  replace hdis := Lib.hid hdis
  replace hks3 := Lib.hid hks3
  clear hks hb2 hlt2 hb3 hOK PM1 hno hG
  by_cases hN0 : N = 0
  · subst hN0
    have RE := revoke_any hC.out (by rw [hN.out]; omega) 1
    unfold RevokeD at RE
    rw [hN.out] at RE
    simp only [if_neg (show ¬ ((1 : Int) ≤ 1 ∧ (1 : Int) ≤ ((0 : Nat) : Int) ∧ (1 : Int) ∉ S) by omega)] at RE
    replace RE := Lib.hid RE
    go_wp2_with fail
    first | with_reducible refine (RE.out).mono ?_ | refine (RE.out).mono ?_
    rintro e w4 ⟨rfl, rfl⟩
    go_wp2_with fail
    first | with_reducible refine (LV.out _).mono ?_ | refine (LV.out _).mono ?_
    rintro e w9 ⟨rfl, hb9⟩
    have hbf := hb3'.out.tr hb9
    go_wp2_with fail
    go_ret
    exact ⟨rfl, hbf⟩
  · have n1 : ((N : Int) == 0) = false := beq_eq_false_iff_ne.2 (by omega)
    have A01 := A0.out w3 N (by omega) (by omega)
    have r0 := around_lo wh N (by omega); have r1 := around_hi wh N (by omega)
    obtain ⟨q', hq'⟩ : ∃ z_, (around wh N) = z_ := ⟨_, rfl⟩
    rw [hq'] at A01 r0 r1
    obtain ⟨q, rfl⟩ : ∃ q : Nat, (q : Int) = q' := ⟨q'.toNat, by omega⟩
    obtain ⟨rfl, qc⟩ := hRG.out.c0 cB_len c0 q (by rw [hN.out]; omega)
    have q0 := qc 0 (by decide); have q1 := qc 1 (by decide); have q2 := qc 2 (by decide); have q3 := qc 3 (by decide); have q4 := qc 4 (by decide)
    simp only [Nat.add_zero, List.getElem?_cons_zero, List.getElem?_cons_succ] at q0 q1 q2 q3 q4
    obtain ⟨hgv, hxo⟩ := (hok2.out _ (getD_mem G q c0 (by rw [hN.out]; omega))).symm
    obtain ⟨o1, o2', o3⟩ := hOg.out q (by omega)
    have hgb := hGb.out (by omega)
    obtain ⟨x, hx⟩ : ∃ z_, (G.getD q c0) = z_ := ⟨_, rfl⟩
    rw [hx] at q0 q1 q2 q3 q4 hxo hgv o1 o2' o3
    obtain ⟨xs, xr, xv, xf, xt⟩ := x
    simp only at q0 q1 q2 q3 q4 o1 o2' o3
    have o4 : 1 ≤ xs := by omega
    have o5 : xs ≤ (N : Int) := by omega
    clear o1
    have hX := heap_alloc_new w3 (.cells #[I xs, I xr, I xv, I xf, I xt] 24)
    have hal := (Bl.rfl' w3).al (.cells #[I xs, I xr, I xv, I xf, I xt] 24)
    have hC := hC.out.bl hal
    have hD := hD.out.bl hal
    have hRG := hRG.out.bl hal
    have hb4 := hb3'.out.tr hal
    have hyk : ∀ k, ks k → k ≠ w3.heap.size := fun k hk => by have := (hks3.out k hk).2; omega
    obtain ⟨y, hy⟩ : ∃ z_, (w3.heap.size) = z_ := ⟨_, rfl⟩
    rw [hy] at hX
    obtain ⟨w4, hw4⟩ : ∃ z_, (w3.alloc (.cells #[I xs, I xr, I xv, I xf, I xt] 24)) = z_ := ⟨_, rfl⟩
    rw [hw4] at hX hC hD hRG hb4
    have hw4' : w3.alloc (.cells #[Value.int .i64 xs, Value.int .i64 xr, Value.int .i64 xv, Value.int .i64 xf, Value.int .i64 xt] 24) = w4 := hw4
    obtain ⟨y0, y1, y2, y3, y4⟩ := five hX
    have CK := check_any hC (by omega) (by rw [hN.out]; omega) ⟨xs, xr, xv, xf, xt⟩ xv t hxo
    have hE := fun h => chk_rev (U := U) (G := G) (S := S) (c := ⟨xs, xr, xv, xf, xt⟩) (v := xv) (now := t) h
    obtain ⟨E0, hE0⟩ : ∃ z_, (chkE U G S ⟨xs, xr, xv, xf, xt⟩ xv t) = z_ := ⟨_, rfl⟩
    rw [hE0] at CK hE
    replace A01 := Lib.hid A01
    replace hX := Lib.hid hX
    replace hC := Lib.hid hC
    replace hD := Lib.hid hD
    replace hRG := Lib.hid hRG
    replace hb4 := Lib.hid hb4
    replace CK := Lib.hid CK
    replace hgv := Lib.hid hgv
    replace hyk := Lib.hid hyk
    clear qc hx hq' hN0 hw4 hb3' hOg hal hE0
    go_wp2_with fail
    with_reducible refine A01.out.mono ?_
    rintro e w' ⟨rfl, rfl⟩
    go_wp2_with fail
    with_reducible refine CK.out.mono ?_
    rintro e w5 ⟨rfl, hb5⟩
    have hC := hC.out.bl hb5
    have hD := hD.out.bl hb5
    have hRG := hRG.out.bl hb5
    have hX := blk_bl hX.out hb5
    have hb5 := hb4.out.tr hb5
    have RE := revoke_any hC (by rw [hN.out]; omega) xs
    unfold RevokeD at RE
    rw [hN.out] at RE
    obtain ⟨y0, y1, y2, y3, y4⟩ := five hX
    clear q0 q1 q2 q3 q4 A01 hb4 CK hw4'
    by_cases hs : xs ∈ S
    · simp only [if_neg (show ¬ ((1 : Int) ≤ xs ∧ xs ≤ (N : Int) ∧ xs ∉ S) from fun h => h.2.2 hs)] at RE
      clear hE
      obtain ⟨SS, hSS⟩ : ∃ SS : List Int, SS = S := ⟨_, rfl⟩
      have hC' : CA ks w5 p U G SS := by rw [hSS]; exact hC
      have hsm : ∀ v, v ≠ xs → (v ∈ SS ↔ v ∈ S) := fun v _ => by rw [hSS]
      have hsi : xs ∈ SS := by rw [hSS]; exact hs
      clear hSS hs hC
      obtain ⟨wb, hwb⟩ : ∃ z_, (E0 == 22) = z_ := ⟨_, rfl⟩
      replace RE := Lib.hid RE
      replace hC' := Lib.hid hC'
      replace hD := Lib.hid hD
      replace hRG := Lib.hid hRG
      replace hX := Lib.hid hX
      replace hb5 := Lib.hid hb5
      replace hsm := Lib.hid hsm
      replace hsi := Lib.hid hsi
      cases wb with
      | false =>
        go_wp2_with fail
        first | with_reducible refine (RE.out).mono ?_ | refine (RE.out).mono ?_
        rintro e w6 ⟨rfl, rfl⟩
        go_wp2_with fail
        first | with_reducible refine (RE.out).mono ?_ | refine (RE.out).mono ?_
        rintro e w6 ⟨rfl, rfl⟩
        clear RE
        obtain ⟨y0, y1, y2, y3, y4⟩ := five hX.out
        go_wp2_with fail
        first | with_reducible refine (A2.out _).mono ?_ | refine (A2.out _).mono ?_
        rintro e w' ⟨rfl, rfl⟩
        obtain ⟨at_, hat⟩ : ∃ z_, (t + o2) = z_ := ⟨_, rfl⟩
        have RT := roots_any hC'.out (by omega) at_
        have hRm := fun v => mem_rootsTo U at_ v (U.length + 1)
        have hRl := rootsTo_len U at_ (U.length + 1)
        obtain ⟨R, hR⟩ : ∃ R, rootsTo U at_ (U.length + 1) = R := ⟨_, rfl⟩
        rw [hR] at RT hRl
        simp only [hR] at hRm
        have RT2 := fun w' (hb : Bl w6 w') => roots_any (hD.out.bl hb) (by omega) at_
        simp only [hR] at RT2
        have CE := fun w' (hb : Bl w6 w') => check_any (hC'.out.bl hb) (by omega) (by rw [hN.out]; omega) ⟨xs, xr, xv, xf, xt⟩ xv at_ hxo
        rw [chk_gone hgv.out hsi.out] at CE
        have hrt : trB U xr at_ = true ↔ xr ∈ R := by rw [hRm xr]; exact ⟨fun h => ⟨by omega, h⟩, fun h => h.2⟩
        have hTk := fun k hk => mem_take_succ_i R xr k hk
        have hTz : decide (xr ∈ R.take 0) = false := by simp
        have hTa : R.take R.length = R := List.take_length
        have hCh := fun w' (hb : Bl w6 w') i (hi : i < N) => check_any (hC'.out.bl hb) (by omega) (by rw [hN.out]; omega) (G.getD i c0) (G.getD i c0).v at_ (hok2.out _ (getD_mem G i c0 (by rw [hN.out]; exact hi))).1
        have hDh := fun w' (hb : Bl w6 w') i (hi : i < N) => check_any (hD.out.bl hb) (by omega) (by rw [hN.out]; omega) (G.getD i c0) (G.getD i c0).v at_ (hok2.out _ (getD_mem G i c0 (by rw [hN.out]; exact hi))).1
        have hEq := fun i (h : (G.getD i c0).s ≠ xs) => chk_same (U := U) (G := G) (S := S) (S' := SS) (c := G.getD i c0) (v := (G.getD i c0).v) (now := at_) (hsm.out _ h)
        obtain ⟨trx, htrx⟩ : ∃ b, trB U xr at_ = b := ⟨_, rfl⟩
        rw [htrx] at CE hrt
        replace RT := Lib.hid RT
        replace RT2 := Lib.hid RT2
        replace CE := Lib.hid CE
        replace hTk := Lib.hid hTk
        replace hTz := Lib.hid hTz
        replace hTa := Lib.hid hTa
        replace hCh := Lib.hid hCh
        replace hDh := Lib.hid hDh
        replace hEq := Lib.hid hEq
        replace hrt := Lib.hid hrt
        clear hRm htrx hR
        replace hat := Lib.hid hat
        have hat' := hat.out
        go_wp2_with fail
        first | with_reducible refine (RT.out).mono ?_ | refine (RT.out).mono ?_
        rintro e w8 ⟨vr, rfl, hRo, hb8⟩
        have hRi := OwnB.ints hRo
        obtain ⟨aR, gR, cR, rfl, -, -, -, hRR⟩ := hRo.row (by decide)
        have hX8 := blk_bl hX.out hb8
        obtain ⟨nr, hnr⟩ : ∃ n, R.length = n := ⟨_, rfl⟩
        rw [hnr] at hRl hRi ⊢
        have hTk := hTk.out; have hTa := hTa.out
        rw [hnr] at hTa
        simp only [hnr] at hTk
        replace hRi := Lib.hid hRi
        replace hRR := Lib.hid hRR
        replace hX8 := Lib.hid hX8
        replace hnr := Lib.hid hnr
        replace hTk := Lib.hid hTk
        replace hTa := Lib.hid hTa
        replace hb8 := Lib.hid hb8
        clear RT hRo
        go_wp2_with fail
        go_loopw [18, 20] (fun tv i wz => ∃ k : Nat, k ≤ nr ∧ i = I k ∧ tv = .bool (decide (xr ∈ R.take k)) ∧ Bl w8 wz) (fun _ i _ => nr - (intOf i).toNat)
        case atStart => exact ⟨0, by omega, rfl, by rw [hTz.out], Bl.rfl' _⟩
        case round =>
          obtain ⟨k, hk, rfl, rfl, hbz⟩ := hrel
          obtain ⟨y0, y1, y2, y3, y4⟩ := five (blk_bl hX8.out hbz)
          by_cases hlt : k < nr
          · have q0 := ((hRR.out.bl hbz).c0 iB_len 0 k (by rw [hnr.out]; exact hlt)).2 0 (by decide)
            obtain ⟨rfl, -⟩ := (hRR.out.bl hbz).c0 iB_len 0 k (by rw [hnr.out]; exact hlt)
            simp only [Nat.mul_one, Nat.add_zero, List.getElem?_cons_zero] at q0
            have ht1 := hTk.out k hlt
            obtain ⟨rv, hrv⟩ : ∃ z_, (R.getD k 0) = z_ := ⟨_, rfl⟩
            rw [hrv] at q0 ht1
            obtain ⟨eb, heb⟩ : ∃ b, (rv == xr) = b := ⟨_, rfl⟩
            rw [heb] at ht1
            obtain ⟨tb, htb⟩ : ∃ b, decide (xr ∈ R.take k) = b := ⟨_, rfl⟩
            rw [htb] at ht1 ⊢
            replace ht1 := Lib.hid ht1
            replace hbz := Lib.hid hbz
            clear hrv htb
            cases tb with
            | true =>
              go_wp2_with fail
              go_quiet (fail)
              go_wp2_with fail
              go_roundw
              case rel => exact ⟨k + 1, by omega, by go_num, by rw [ht1.out]; rfl, hbz.out.drn _⟩
              case measure => simp [intOf] <;> omega
            | false =>
              go_wp2_with fail
              go_quiet (fail)
              go_wp2_with fail
              go_roundw
              case rel => exact ⟨k + 1, by omega, by go_num, by rw [ht1.out]; rfl, hbz.out.drn _⟩
              case measure => simp [intOf] <;> omega
          · obtain rfl : nr = k := by omega
            rw [hTa.out]
            have hbt := hb8.out.tr hbz
            have CE1 := CE.out _ hbt
            have hw8 := hbz
            have hX9 := hX8.out
            have hrt' : decide (xr ∈ R) = trx := by
              cases trx with
              | true => exact decide_eq_true (hrt.out.1 rfl)
              | false => exact decide_eq_false (fun h => by have := hrt.out.2 h; cases this)
            rw [hrt']
            replace hbt := Lib.hid hbt
            replace CE1 := Lib.hid CE1
            clear hrt' hTa hTk
            cases trx with
            | true =>
              have CE1 := CE1.out
              simp only [if_true] at CE1
              replace CE1 := Lib.hid CE1
              go_wp2_with fail
              first | with_reducible refine (CE1.out).mono ?_ | refine (CE1.out).mono ?_
              rintro e w9 ⟨rfl, hb9⟩
              have hb9' := hbt.out.tr hb9
              have hX10 := blk_bl hX.out hb9'
              obtain ⟨y0, y1, y2, y3, y4⟩ := five hX10
              replace hb9' := Lib.hid hb9'
              clear CE1
              go_wp2_with fail
              clear y0 y1 y2 y3 y4
              go_loopw [22] (fun i wz => ∃ k : Nat, k ≤ N ∧ i = I k ∧ Bl w9 wz) (fun i _ => N - (intOf i).toNat)
              case atStart => exact ⟨0, by omega, rfl, Bl.rfl' _⟩
              case round =>
                obtain ⟨k, hk, rfl, hbz⟩ := hrel
                have hbt2 := hb9'.out.tr hbz
                by_cases hlt : k < N
                · have hbd := hbt2.dr
                  have hRGd := hRG.out.bl hbd
                  have hX11 := blk_bl hX.out hbd
                  have hcel := fun w' (hb : Bl w6 w') => ((hRG.out.bl hb).c0 cB_len c0 k (by rw [hN.out]; exact hlt)).2
                  have hye := fun w' (hb : Bl w6 w') => (five (blk_bl hX.out hb)).1
                  have hCk := fun w' hb => hCh.out w' hb k hlt
                  have hDk := fun w' hb => hDh.out w' hb k hlt
                  have hEk := hEq.out k
                  obtain ⟨z, hz⟩ : ∃ z, G.getD k c0 = z := ⟨_, rfl⟩
                  simp only [hz] at hcel hCk hDk hEk
                  obtain ⟨zs, zr, zv, zf, zt⟩ := z
                  have hS : ∀ w', Bl w6 w' → w'.cell? ⟨gG, k * 5, none⟩ = some (I zs) ∧ w'.cell? ⟨gG, k * 5 + 1, none⟩ = some (I zr) ∧ w'.cell? ⟨gG, k * 5 + 2, none⟩ = some (I zv) ∧ w'.cell? ⟨gG, k * 5 + 3, none⟩ = some (I zf) ∧ w'.cell? ⟨gG, k * 5 + 4, none⟩ = some (I zt) ∧ w'.cell? ⟨y, 0, none⟩ = some (I xs) := fun w' hb =>
                    ⟨hcel w' hb 0 (by decide), hcel w' hb 1 (by decide), hcel w' hb 2 (by decide), hcel w' hb 3 (by decide), hcel w' hb 4 (by decide), hye w' hb⟩
                  replace hbd := Lib.hid hbd
                  replace hS := Lib.hid hS
                  replace hCk := Lib.hid hCk
                  replace hDk := Lib.hid hDk
                  replace hEk := Lib.hid hEk
                  replace hbz := Lib.hid hbz
                  clear hRGd hX11 hcel hye hz hbt2
                  go_wp2_with fail
                  refine wp_region_held_drew (S := fun w' => w'.cell? ⟨gG, k * 5, none⟩ = some (I zs) ∧ w'.cell? ⟨gG, k * 5 + 1, none⟩ = some (I zr) ∧ w'.cell? ⟨gG, k * 5 + 2, none⟩ = some (I zv) ∧ w'.cell? ⟨gG, k * 5 + 3, none⟩ = some (I zf) ∧ w'.cell? ⟨gG, k * 5 + 4, none⟩ = some (I zt) ∧ w'.cell? ⟨y, 0, none⟩ = some (I xs)) (by kernel_rfl) ?_ (fun hHeld => ?_)
                  · exact hS.out _ hbd.out
                  by_cases hzx : zs = xs
                  · have zb : (zs != xs) = false := by rw [hzx]; simp
                    have zb2 : (zs == xs) = true := by rw [hzx]; simp
                    replace hzx := Lib.hid hzx
                    refine wpAnyH_take (i := 0) (v := ?v0_1) rfl (by kernel_rfl) (by kernel_rfl) (by kernel_rfl) (fun _ _ _ h => h) (Or.inl ⟨by rfl, ?y0_1⟩) hHeld ?r0_1
                    case y0_1 => (intro w hSw; (try dsimp only at hSw); go_split_ands; go_simp; try with_reducible rfl)
                    try simp only [List.getElem_toArray, List.getElem_cons_succ, List.getElem_cons_zero, Act.put, List.setIfInBounds_toArray, List.set_cons_zero, List.set_cons_succ]
                    refine wpAnyH_take (i := 1) (v := ?v1_2) rfl (by kernel_rfl) (by kernel_rfl) (by kernel_rfl) (fun _ _ _ h => h) (Or.inl ⟨by rfl, ?y1_2⟩) hHeld ?r1_2
                    case y1_2 => (intro w hSw; (try dsimp only at hSw); go_split_ands; go_simp; try with_reducible rfl)
                    try simp only [List.getElem_toArray, List.getElem_cons_succ, List.getElem_cons_zero, Act.put, List.setIfInBounds_toArray, List.set_cons_zero, List.set_cons_succ]
                    refine wpAnyH_take (i := 2) (v := ?v2_3) rfl (by kernel_rfl) (by kernel_rfl) (by kernel_rfl) (fun _ _ _ h => h) (Or.inl ⟨by rfl, ?y2_3⟩) hHeld ?r2_3
                    case y2_3 => (intro w hSw; (try dsimp only at hSw); go_split_ands; go_simp; try with_reducible rfl)
                    try simp only [List.getElem_toArray, List.getElem_cons_succ, List.getElem_cons_zero, Act.put, List.setIfInBounds_toArray, List.set_cons_zero, List.set_cons_succ]
                    refine wpAnyH_take (i := 3) (v := ?v3_4) rfl (by kernel_rfl) (by kernel_rfl) (by kernel_rfl) (fun _ _ _ h => h) (Or.inl ⟨by rfl, ?y3_4⟩) hHeld ?r3_4
                    case y3_4 => (intro w hSw; (try dsimp only at hSw); go_split_ands; go_simp; try with_reducible rfl)
                    try simp only [List.getElem_toArray, List.getElem_cons_succ, List.getElem_cons_zero, Act.put, List.setIfInBounds_toArray, List.set_cons_zero, List.set_cons_succ]
                    refine wpAnyH_take (i := 4) (v := ?v4_5) rfl (by kernel_rfl) (by kernel_rfl) (by kernel_rfl) (fun _ _ _ h => h) (Or.inl ⟨by rfl, ?y4_5⟩) hHeld ?r4_5
                    case y4_5 => (intro w hSw; (try dsimp only at hSw); go_split_ands; go_simp; try with_reducible rfl)
                    try simp only [List.getElem_toArray, List.getElem_cons_succ, List.getElem_cons_zero, Act.put, List.setIfInBounds_toArray, List.set_cons_zero, List.set_cons_succ]
                    refine wpAnyH_take (i := 5) (v := ?v5_6) rfl (by kernel_rfl) (by kernel_rfl) (by kernel_rfl) (fun _ _ _ h => h) (Or.inl ⟨by rfl, ?y5_6⟩) hHeld ?r5_6
                    case y5_6 => (intro w hSw; (try dsimp only at hSw); go_split_ands; go_simp; try with_reducible rfl)
                    try simp only [List.getElem_toArray, List.getElem_cons_succ, List.getElem_cons_zero, Act.put, List.setIfInBounds_toArray, List.set_cons_zero, List.set_cons_succ]
                    refine wpAnyH_take (i := 6) (v := ?v6_7) rfl (by kernel_rfl) (by kernel_rfl) (by kernel_rfl) (fun _ _ _ h => h) (Or.inl ⟨by rfl, ?y6_7⟩) hHeld ?r6_7
                    case y6_7 => (intro w hSw; (try dsimp only at hSw); go_split_ands; go_simp; try with_reducible rfl)
                    try simp only [List.getElem_toArray, List.getElem_cons_succ, List.getElem_cons_zero, Act.put, List.setIfInBounds_toArray, List.set_cons_zero, List.set_cons_succ]
                    refine wpAnyH_take (i := 7) (v := ?v7_8) rfl (by kernel_rfl) (by kernel_rfl) (by kernel_rfl) (fun _ _ _ h => h) (Or.inl ⟨by rfl, ?y7_8⟩) hHeld ?r7_8
                    case y7_8 => (intro w hSw; (try dsimp only at hSw); go_split_ands; go_simp; try with_reducible rfl)
                    try simp only [List.getElem_toArray, List.getElem_cons_succ, List.getElem_cons_zero, Act.put, List.setIfInBounds_toArray, List.set_cons_zero, List.set_cons_succ]
                    refine wpAnyH_take (i := 8) (v := ?v8_9) rfl (by kernel_rfl) (by kernel_rfl) (by kernel_rfl) (fun _ _ _ h => h) (Or.inl ⟨by rfl, ?y8_9⟩) hHeld ?r8_9
                    case y8_9 => (intro w hSw; (try dsimp only at hSw); go_split_ands; go_simp; try with_reducible rfl)
                    try simp only [List.getElem_toArray, List.getElem_cons_succ, List.getElem_cons_zero, Act.put, List.setIfInBounds_toArray, List.set_cons_zero, List.set_cons_succ]
                    refine wpAnyH_take (i := 9) (v := undef) rfl (by kernel_rfl) (by kernel_rfl) (by kernel_rfl) (fun _ _ _ h => h) (Or.inr ⟨by rfl, rfl⟩) hHeld ?_
                    try simp only [List.getElem_toArray, List.getElem_cons_succ, List.getElem_cons_zero, Act.put, List.setIfInBounds_toArray, List.set_cons_zero, List.set_cons_succ]
                    refine wpAnyH_take (i := 10) (v := undef) rfl (by kernel_rfl) (by kernel_rfl) (by kernel_rfl) (fun _ _ _ h => h) (Or.inr ⟨by rfl, rfl⟩) hHeld ?_
                    try simp only [List.getElem_toArray, List.getElem_cons_succ, List.getElem_cons_zero, Act.put, List.setIfInBounds_toArray, List.set_cons_zero, List.set_cons_succ]
                    refine wpAnyH_take (i := 11) (v := undef) rfl (by kernel_rfl) (by kernel_rfl) (by kernel_rfl) (fun _ _ _ h => h) (Or.inr ⟨by rfl, rfl⟩) hHeld ?_
                    try simp only [List.getElem_toArray, List.getElem_cons_succ, List.getElem_cons_zero, Act.put, List.setIfInBounds_toArray, List.set_cons_zero, List.set_cons_succ]
                    refine wpAnyH_take (i := 12) (v := undef) rfl (by kernel_rfl) (by kernel_rfl) (by kernel_rfl) (fun _ _ _ h => h) (Or.inr ⟨by rfl, rfl⟩) hHeld ?_
                    try simp only [List.getElem_toArray, List.getElem_cons_succ, List.getElem_cons_zero, Act.put, List.setIfInBounds_toArray, List.set_cons_zero, List.set_cons_succ]
                    refine wpAnyH_take (i := 13) (v := undef) rfl (by kernel_rfl) (by kernel_rfl) (by kernel_rfl) (fun _ _ _ h => h) (Or.inr ⟨by rfl, rfl⟩) hHeld ?_
                    try simp only [List.getElem_toArray, List.getElem_cons_succ, List.getElem_cons_zero, Act.put, List.setIfInBounds_toArray, List.set_cons_zero, List.set_cons_succ]
                    refine wpAnyH_take (i := 14) (v := undef) rfl (by kernel_rfl) (by kernel_rfl) (by kernel_rfl) (fun _ _ _ h => h) (Or.inr ⟨by rfl, rfl⟩) hHeld ?_
                    try simp only [List.getElem_toArray, List.getElem_cons_succ, List.getElem_cons_zero, Act.put, List.setIfInBounds_toArray, List.set_cons_zero, List.set_cons_succ]
                    refine wpAnyH_take (i := 15) (v := undef) rfl (by kernel_rfl) (by kernel_rfl) (by kernel_rfl) (fun _ _ _ h => h) (Or.inr ⟨by rfl, rfl⟩) hHeld ?_
                    try simp only [List.getElem_toArray, List.getElem_cons_succ, List.getElem_cons_zero, Act.put, List.setIfInBounds_toArray, List.set_cons_zero, List.set_cons_succ]
                    refine wpAnyH_take (i := 16) (v := undef) rfl (by kernel_rfl) (by kernel_rfl) (by kernel_rfl) (fun _ _ _ h => h) (Or.inr ⟨by rfl, rfl⟩) hHeld ?_
                    try simp only [List.getElem_toArray, List.getElem_cons_succ, List.getElem_cons_zero, Act.put, List.setIfInBounds_toArray, List.set_cons_zero, List.set_cons_succ]
                    refine wpAnyH_take (i := 17) (v := undef) rfl (by kernel_rfl) (by kernel_rfl) (by kernel_rfl) (fun _ _ _ h => h) (Or.inr ⟨by rfl, rfl⟩) hHeld ?_
                    try simp only [List.getElem_toArray, List.getElem_cons_succ, List.getElem_cons_zero, Act.put, List.setIfInBounds_toArray, List.set_cons_zero, List.set_cons_succ]
                    refine wpAnyH_take (i := 18) (v := undef) rfl (by kernel_rfl) (by kernel_rfl) (by kernel_rfl) (fun _ _ _ h => h) (Or.inr ⟨by rfl, rfl⟩) hHeld ?_
                    try simp only [List.getElem_toArray, List.getElem_cons_succ, List.getElem_cons_zero, Act.put, List.setIfInBounds_toArray, List.set_cons_zero, List.set_cons_succ]
                    refine wpAnyH_take (i := 19) (v := undef) rfl (by kernel_rfl) (by kernel_rfl) (by kernel_rfl) (fun _ _ _ h => h) (Or.inr ⟨by rfl, rfl⟩) hHeld ?_
                    try simp only [List.getElem_toArray, List.getElem_cons_succ, List.getElem_cons_zero, Act.put, List.setIfInBounds_toArray, List.set_cons_zero, List.set_cons_succ]
                    refine wpAnyH_take (i := 20) (v := undef) rfl (by kernel_rfl) (by kernel_rfl) (by kernel_rfl) (fun _ _ _ h => h) (Or.inr ⟨by rfl, rfl⟩) hHeld ?_
                    try simp only [List.getElem_toArray, List.getElem_cons_succ, List.getElem_cons_zero, Act.put, List.setIfInBounds_toArray, List.set_cons_zero, List.set_cons_succ]
                    refine wpAnyH_take (i := 21) (v := undef) rfl (by kernel_rfl) (by kernel_rfl) (by kernel_rfl) (fun _ _ _ h => h) (Or.inr ⟨by rfl, rfl⟩) hHeld ?_
                    try simp only [List.getElem_toArray, List.getElem_cons_succ, List.getElem_cons_zero, Act.put, List.setIfInBounds_toArray, List.set_cons_zero, List.set_cons_succ]
                    refine wpAnyH_take (i := 22) (v := undef) rfl (by kernel_rfl) (by kernel_rfl) (by kernel_rfl) (fun _ _ _ h => h) (Or.inr ⟨by rfl, rfl⟩) hHeld ?_
                    try simp only [List.getElem_toArray, List.getElem_cons_succ, List.getElem_cons_zero, Act.put, List.setIfInBounds_toArray, List.set_cons_zero, List.set_cons_succ]
                    refine wpAnyH_take (i := 23) (v := undef) rfl (by kernel_rfl) (by kernel_rfl) (by kernel_rfl) (fun _ _ _ h => h) (Or.inr ⟨by rfl, rfl⟩) hHeld ?_
                    try simp only [List.getElem_toArray, List.getElem_cons_succ, List.getElem_cons_zero, Act.put, List.setIfInBounds_toArray, List.set_cons_zero, List.set_cons_succ]
                    refine wpAnyH_take (i := 24) (v := undef) rfl (by kernel_rfl) (by kernel_rfl) (by kernel_rfl) (fun _ _ _ h => h) (Or.inr ⟨by rfl, rfl⟩) hHeld ?_
                    try simp only [List.getElem_toArray, List.getElem_cons_succ, List.getElem_cons_zero, Act.put, List.setIfInBounds_toArray, List.set_cons_zero, List.set_cons_succ]
                    refine wpAnyH_take (i := 25) (v := undef) rfl (by kernel_rfl) (by kernel_rfl) (by kernel_rfl) (fun _ _ _ h => h) (Or.inr ⟨by rfl, rfl⟩) hHeld ?_
                    try simp only [List.getElem_toArray, List.getElem_cons_succ, List.getElem_cons_zero, Act.put, List.setIfInBounds_toArray, List.set_cons_zero, List.set_cons_succ]
                    refine wpAnyH_take (i := 26) (v := undef) rfl (by kernel_rfl) (by kernel_rfl) (by kernel_rfl) (fun _ _ _ h => h) (Or.inr ⟨by rfl, rfl⟩) hHeld ?_
                    try simp only [List.getElem_toArray, List.getElem_cons_succ, List.getElem_cons_zero, Act.put, List.setIfInBounds_toArray, List.set_cons_zero, List.set_cons_succ]
                    refine wpAnyH_take (i := 27) (v := undef) rfl (by kernel_rfl) (by kernel_rfl) (by kernel_rfl) (fun _ _ _ h => h) (Or.inr ⟨by rfl, rfl⟩) hHeld ?_
                    try simp only [List.getElem_toArray, List.getElem_cons_succ, List.getElem_cons_zero, Act.put, List.setIfInBounds_toArray, List.set_cons_zero, List.set_cons_succ]
                    refine wpAnyH_take (i := 28) (v := undef) rfl (by kernel_rfl) (by kernel_rfl) (by kernel_rfl) (fun _ _ _ h => h) (Or.inr ⟨by rfl, rfl⟩) hHeld ?_
                    try simp only [List.getElem_toArray, List.getElem_cons_succ, List.getElem_cons_zero, Act.put, List.setIfInBounds_toArray, List.set_cons_zero, List.set_cons_succ]
                    refine wpAnyH_take (i := 29) (v := undef) rfl (by kernel_rfl) (by kernel_rfl) (by kernel_rfl) (fun _ _ _ h => h) (Or.inr ⟨by rfl, rfl⟩) hHeld ?_
                    try simp only [List.getElem_toArray, List.getElem_cons_succ, List.getElem_cons_zero, Act.put, List.setIfInBounds_toArray, List.set_cons_zero, List.set_cons_succ]
                    refine wpAnyH_take (i := 30) (v := undef) rfl (by kernel_rfl) (by kernel_rfl) (by kernel_rfl) (fun _ _ _ h => h) (Or.inr ⟨by rfl, rfl⟩) hHeld ?_
                    try simp only [List.getElem_toArray, List.getElem_cons_succ, List.getElem_cons_zero, Act.put, List.setIfInBounds_toArray, List.set_cons_zero, List.set_cons_succ]
                    refine wpAnyH_take (i := 31) (v := undef) rfl (by kernel_rfl) (by kernel_rfl) (by kernel_rfl) (fun _ _ _ h => h) (Or.inr ⟨by rfl, rfl⟩) hHeld ?_
                    try simp only [List.getElem_toArray, List.getElem_cons_succ, List.getElem_cons_zero, Act.put, List.setIfInBounds_toArray, List.set_cons_zero, List.set_cons_succ]
                    refine wpAnyH_take (i := 32) (v := undef) rfl (by kernel_rfl) (by kernel_rfl) (by kernel_rfl) (fun _ _ _ h => h) (Or.inr ⟨by rfl, rfl⟩) hHeld ?_
                    try simp only [List.getElem_toArray, List.getElem_cons_succ, List.getElem_cons_zero, Act.put, List.setIfInBounds_toArray, List.set_cons_zero, List.set_cons_succ]
                    refine wpAnyH_take (i := 33) (v := undef) rfl (by kernel_rfl) (by kernel_rfl) (by kernel_rfl) (fun _ _ _ h => h) (Or.inr ⟨by rfl, rfl⟩) hHeld ?_
                    try simp only [List.getElem_toArray, List.getElem_cons_succ, List.getElem_cons_zero, Act.put, List.setIfInBounds_toArray, List.set_cons_zero, List.set_cons_succ]
                    refine wpAnyH_take (i := 34) (v := ?v34_10) rfl (by kernel_rfl) (by kernel_rfl) (by kernel_rfl) (fun _ _ _ h => h) (Or.inl ⟨by rfl, ?y34_10⟩) hHeld ?r34_10
                    case y34_10 => (intro w hSw; (try dsimp only at hSw); go_split_ands; go_simp; try with_reducible rfl)
                    try simp only [List.getElem_toArray, List.getElem_cons_succ, List.getElem_cons_zero, Act.put, List.setIfInBounds_toArray, List.set_cons_zero, List.set_cons_succ]
                    refine wpAnyH_done (by kernel_rfl) ?_ _
                    go_wp2_with fail
                    go_roundw
                    case rel => exact ⟨k + 1, by omega, by go_num, hbz.out.dr⟩
                    case measure => simp [intOf] <;> omega
                  · have zb : (zs != xs) = true := by simp [hzx]
                    have zb2 : (zs == xs) = false := beq_eq_false_iff_ne.2 hzx
                    have hEe := hEk.out hzx
                    try simp only at hEe
                    have hCk := hCk.out
                    simp only [hEe] at hCk
                    obtain ⟨ee, hee⟩ : ∃ e, chkE U G S ⟨zs, zr, zv, zf, zt⟩ zv at_ = e := ⟨_, rfl⟩
                    have hDk := hDk.out
                    simp only [hee] at hCk hDk
                    replace hzx := Lib.hid hzx
                    replace hCk := Lib.hid hCk
                    replace hDk := Lib.hid hDk
                    clear hEe hee
                    refine wpAnyH_take (i := 0) (v := ?v0_11) rfl (by kernel_rfl) (by kernel_rfl) (by kernel_rfl) (fun _ _ _ h => h) (Or.inl ⟨by rfl, ?y0_11⟩) hHeld ?r0_11
                    case y0_11 => (intro w hSw; (try dsimp only at hSw); go_split_ands; go_simp; try with_reducible rfl)
                    try simp only [List.getElem_toArray, List.getElem_cons_succ, List.getElem_cons_zero, Act.put, List.setIfInBounds_toArray, List.set_cons_zero, List.set_cons_succ]
                    refine wpAnyH_take (i := 1) (v := ?v1_12) rfl (by kernel_rfl) (by kernel_rfl) (by kernel_rfl) (fun _ _ _ h => h) (Or.inl ⟨by rfl, ?y1_12⟩) hHeld ?r1_12
                    case y1_12 => (intro w hSw; (try dsimp only at hSw); go_split_ands; go_simp; try with_reducible rfl)
                    try simp only [List.getElem_toArray, List.getElem_cons_succ, List.getElem_cons_zero, Act.put, List.setIfInBounds_toArray, List.set_cons_zero, List.set_cons_succ]
                    refine wpAnyH_take (i := 2) (v := ?v2_13) rfl (by kernel_rfl) (by kernel_rfl) (by kernel_rfl) (fun _ _ _ h => h) (Or.inl ⟨by rfl, ?y2_13⟩) hHeld ?r2_13
                    case y2_13 => (intro w hSw; (try dsimp only at hSw); go_split_ands; go_simp; try with_reducible rfl)
                    try simp only [List.getElem_toArray, List.getElem_cons_succ, List.getElem_cons_zero, Act.put, List.setIfInBounds_toArray, List.set_cons_zero, List.set_cons_succ]
                    refine wpAnyH_take (i := 3) (v := ?v3_14) rfl (by kernel_rfl) (by kernel_rfl) (by kernel_rfl) (fun _ _ _ h => h) (Or.inl ⟨by rfl, ?y3_14⟩) hHeld ?r3_14
                    case y3_14 => (intro w hSw; (try dsimp only at hSw); go_split_ands; go_simp; try with_reducible rfl)
                    try simp only [List.getElem_toArray, List.getElem_cons_succ, List.getElem_cons_zero, Act.put, List.setIfInBounds_toArray, List.set_cons_zero, List.set_cons_succ]
                    refine wpAnyH_take (i := 4) (v := ?v4_15) rfl (by kernel_rfl) (by kernel_rfl) (by kernel_rfl) (fun _ _ _ h => h) (Or.inl ⟨by rfl, ?y4_15⟩) hHeld ?r4_15
                    case y4_15 => (intro w hSw; (try dsimp only at hSw); go_split_ands; go_simp; try with_reducible rfl)
                    try simp only [List.getElem_toArray, List.getElem_cons_succ, List.getElem_cons_zero, Act.put, List.setIfInBounds_toArray, List.set_cons_zero, List.set_cons_succ]
                    refine wpAnyH_take (i := 5) (v := ?v5_16) rfl (by kernel_rfl) (by kernel_rfl) (by kernel_rfl) (fun _ _ _ h => h) (Or.inl ⟨by rfl, ?y5_16⟩) hHeld ?r5_16
                    case y5_16 => (intro w hSw; (try dsimp only at hSw); go_split_ands; go_simp; try with_reducible rfl)
                    try simp only [List.getElem_toArray, List.getElem_cons_succ, List.getElem_cons_zero, Act.put, List.setIfInBounds_toArray, List.set_cons_zero, List.set_cons_succ]
                    refine wpAnyH_take (i := 6) (v := ?v6_17) rfl (by kernel_rfl) (by kernel_rfl) (by kernel_rfl) (fun _ _ _ h => h) (Or.inl ⟨by rfl, ?y6_17⟩) hHeld ?r6_17
                    case y6_17 => (intro w hSw; (try dsimp only at hSw); go_split_ands; go_simp; try with_reducible rfl)
                    try simp only [List.getElem_toArray, List.getElem_cons_succ, List.getElem_cons_zero, Act.put, List.setIfInBounds_toArray, List.set_cons_zero, List.set_cons_succ]
                    refine wpAnyH_take (i := 7) (v := ?v7_18) rfl (by kernel_rfl) (by kernel_rfl) (by kernel_rfl) (fun _ _ _ h => h) (Or.inl ⟨by rfl, ?y7_18⟩) hHeld ?r7_18
                    case y7_18 => (intro w hSw; (try dsimp only at hSw); go_split_ands; go_simp; try with_reducible rfl)
                    try simp only [List.getElem_toArray, List.getElem_cons_succ, List.getElem_cons_zero, Act.put, List.setIfInBounds_toArray, List.set_cons_zero, List.set_cons_succ]
                    refine wpAnyH_take (i := 8) (v := ?v8_19) rfl (by kernel_rfl) (by kernel_rfl) (by kernel_rfl) (fun _ _ _ h => h) (Or.inl ⟨by rfl, ?y8_19⟩) hHeld ?r8_19
                    case y8_19 => (intro w hSw; (try dsimp only at hSw); go_split_ands; go_simp; try with_reducible rfl)
                    try simp only [List.getElem_toArray, List.getElem_cons_succ, List.getElem_cons_zero, Act.put, List.setIfInBounds_toArray, List.set_cons_zero, List.set_cons_succ]
                    refine wpAnyH_take (i := 9) (v := ?v9_20) rfl (by kernel_rfl) (by kernel_rfl) (by kernel_rfl) (fun _ _ _ h => h) (Or.inl ⟨by rfl, ?y9_20⟩) hHeld ?r9_20
                    case y9_20 => (intro w hSw; (try dsimp only at hSw); go_split_ands; go_simp; try with_reducible rfl)
                    try simp only [List.getElem_toArray, List.getElem_cons_succ, List.getElem_cons_zero, Act.put, List.setIfInBounds_toArray, List.set_cons_zero, List.set_cons_succ]
                    refine wpAnyH_take (i := 10) (v := ?v10_21) rfl (by kernel_rfl) (by kernel_rfl) (by kernel_rfl) (fun _ _ _ h => h) (Or.inl ⟨by rfl, ?y10_21⟩) hHeld ?r10_21
                    case y10_21 => (intro w hSw; (try dsimp only at hSw); go_split_ands; go_simp; try with_reducible rfl)
                    try simp only [List.getElem_toArray, List.getElem_cons_succ, List.getElem_cons_zero, Act.put, List.setIfInBounds_toArray, List.set_cons_zero, List.set_cons_succ]
                    refine wpAnyH_take (i := 11) (v := ?v11_22) rfl (by kernel_rfl) (by kernel_rfl) (by kernel_rfl) (fun _ _ _ h => h) (Or.inl ⟨by rfl, ?y11_22⟩) hHeld ?r11_22
                    case y11_22 => (intro w hSw; (try dsimp only at hSw); go_split_ands; go_simp; try with_reducible rfl)
                    try simp only [List.getElem_toArray, List.getElem_cons_succ, List.getElem_cons_zero, Act.put, List.setIfInBounds_toArray, List.set_cons_zero, List.set_cons_succ]
                    refine wpAnyH_take (i := 12) (v := ?v12_23) rfl (by kernel_rfl) (by kernel_rfl) (by kernel_rfl) (fun _ _ _ h => h) (Or.inl ⟨by rfl, ?y12_23⟩) hHeld ?r12_23
                    case y12_23 => (intro w hSw; (try dsimp only at hSw); go_split_ands; go_simp; try with_reducible rfl)
                    try simp only [List.getElem_toArray, List.getElem_cons_succ, List.getElem_cons_zero, Act.put, List.setIfInBounds_toArray, List.set_cons_zero, List.set_cons_succ]
                    refine wpAnyH_take (i := 13) (v := ?v13_24) rfl (by kernel_rfl) (by kernel_rfl) (by kernel_rfl) (fun _ _ _ h => h) (Or.inl ⟨by rfl, ?y13_24⟩) hHeld ?r13_24
                    case y13_24 => (intro w hSw; (try dsimp only at hSw); go_split_ands; go_simp; try with_reducible rfl)
                    try simp only [List.getElem_toArray, List.getElem_cons_succ, List.getElem_cons_zero, Act.put, List.setIfInBounds_toArray, List.set_cons_zero, List.set_cons_succ]
                    refine wpAnyH_take (i := 14) (v := ?v14_25) rfl (by kernel_rfl) (by kernel_rfl) (by kernel_rfl) (fun _ _ _ h => h) (Or.inl ⟨by rfl, ?y14_25⟩) hHeld ?r14_25
                    case y14_25 => (intro w hSw; (try dsimp only at hSw); go_split_ands; go_simp; try with_reducible rfl)
                    try simp only [List.getElem_toArray, List.getElem_cons_succ, List.getElem_cons_zero, Act.put, List.setIfInBounds_toArray, List.set_cons_zero, List.set_cons_succ]
                    refine wpAnyH_take (i := 15) (v := ?v15_26) rfl (by kernel_rfl) (by kernel_rfl) (by kernel_rfl) (fun _ _ _ h => h) (Or.inl ⟨by rfl, ?y15_26⟩) hHeld ?r15_26
                    case y15_26 => (intro w hSw; (try dsimp only at hSw); go_split_ands; go_simp; try with_reducible rfl)
                    try simp only [List.getElem_toArray, List.getElem_cons_succ, List.getElem_cons_zero, Act.put, List.setIfInBounds_toArray, List.set_cons_zero, List.set_cons_succ]
                    refine wpAnyH_take (i := 16) (v := ?v16_27) rfl (by kernel_rfl) (by kernel_rfl) (by kernel_rfl) (fun _ _ _ h => h) (Or.inl ⟨by rfl, ?y16_27⟩) hHeld ?r16_27
                    case y16_27 => (intro w hSw; (try dsimp only at hSw); go_split_ands; go_simp; try with_reducible rfl)
                    try simp only [List.getElem_toArray, List.getElem_cons_succ, List.getElem_cons_zero, Act.put, List.setIfInBounds_toArray, List.set_cons_zero, List.set_cons_succ]
                    refine wpAnyH_take (i := 17) (v := ?v17_28) rfl (by kernel_rfl) (by kernel_rfl) (by kernel_rfl) (fun _ _ _ h => h) (Or.inl ⟨by rfl, ?y17_28⟩) hHeld ?r17_28
                    case y17_28 => (intro w hSw; (try dsimp only at hSw); go_split_ands; go_simp; try with_reducible rfl)
                    try simp only [List.getElem_toArray, List.getElem_cons_succ, List.getElem_cons_zero, Act.put, List.setIfInBounds_toArray, List.set_cons_zero, List.set_cons_succ]
                    refine wpAnyH_take (i := 18) (v := ?v18_29) rfl (by kernel_rfl) (by kernel_rfl) (by kernel_rfl) (fun _ _ _ h => h) (Or.inl ⟨by rfl, ?y18_29⟩) hHeld ?r18_29
                    case y18_29 => (intro w hSw; (try dsimp only at hSw); go_split_ands; go_simp; try with_reducible rfl)
                    try simp only [List.getElem_toArray, List.getElem_cons_succ, List.getElem_cons_zero, Act.put, List.setIfInBounds_toArray, List.set_cons_zero, List.set_cons_succ]
                    refine wpAnyH_take (i := 19) (v := ?v19_30) rfl (by kernel_rfl) (by kernel_rfl) (by kernel_rfl) (fun _ _ _ h => h) (Or.inl ⟨by rfl, ?y19_30⟩) hHeld ?r19_30
                    case y19_30 => (intro w hSw; (try dsimp only at hSw); go_split_ands; go_simp; try with_reducible rfl)
                    try simp only [List.getElem_toArray, List.getElem_cons_succ, List.getElem_cons_zero, Act.put, List.setIfInBounds_toArray, List.set_cons_zero, List.set_cons_succ]
                    refine wpAnyH_take (i := 21) (v := ?v21_31) rfl (by kernel_rfl) (by kernel_rfl) (by kernel_rfl) (fun _ _ _ h => h) (Or.inl ⟨by rfl, ?y21_31⟩) hHeld ?r21_31
                    case y21_31 => (intro w hSw; (try dsimp only at hSw); go_split_ands; go_simp; try with_reducible rfl)
                    try simp only [List.getElem_toArray, List.getElem_cons_succ, List.getElem_cons_zero, Act.put, List.setIfInBounds_toArray, List.set_cons_zero, List.set_cons_succ]
                    refine wpAnyH_take (i := 22) (v := ?v22_32) rfl (by kernel_rfl) (by kernel_rfl) (by kernel_rfl) (fun _ _ _ h => h) (Or.inl ⟨by rfl, ?y22_32⟩) hHeld ?r22_32
                    case y22_32 => (intro w hSw; (try dsimp only at hSw); go_split_ands; go_simp; try with_reducible rfl)
                    try simp only [List.getElem_toArray, List.getElem_cons_succ, List.getElem_cons_zero, Act.put, List.setIfInBounds_toArray, List.set_cons_zero, List.set_cons_succ]
                    refine wpAnyH_take (i := 23) (v := ?v23_33) rfl (by kernel_rfl) (by kernel_rfl) (by kernel_rfl) (fun _ _ _ h => h) (Or.inl ⟨by rfl, ?y23_33⟩) hHeld ?r23_33
                    case y23_33 => (intro w hSw; (try dsimp only at hSw); go_split_ands; go_simp; try with_reducible rfl)
                    try simp only [List.getElem_toArray, List.getElem_cons_succ, List.getElem_cons_zero, Act.put, List.setIfInBounds_toArray, List.set_cons_zero, List.set_cons_succ]
                    refine wpAnyH_take (i := 24) (v := ?v24_34) rfl (by kernel_rfl) (by kernel_rfl) (by kernel_rfl) (fun _ _ _ h => h) (Or.inl ⟨by rfl, ?y24_34⟩) hHeld ?r24_34
                    case y24_34 => (intro w hSw; (try dsimp only at hSw); go_split_ands; go_simp; try with_reducible rfl)
                    try simp only [List.getElem_toArray, List.getElem_cons_succ, List.getElem_cons_zero, Act.put, List.setIfInBounds_toArray, List.set_cons_zero, List.set_cons_succ]
                    refine wpAnyH_take (i := 25) (v := ?v25_35) rfl (by kernel_rfl) (by kernel_rfl) (by kernel_rfl) (fun _ _ _ h => h) (Or.inl ⟨by rfl, ?y25_35⟩) hHeld ?r25_35
                    case y25_35 => (intro w hSw; (try dsimp only at hSw); go_split_ands; go_simp; try with_reducible rfl)
                    try simp only [List.getElem_toArray, List.getElem_cons_succ, List.getElem_cons_zero, Act.put, List.setIfInBounds_toArray, List.set_cons_zero, List.set_cons_succ]
                    refine wpAnyH_take (i := 26) (v := ?v26_36) rfl (by kernel_rfl) (by kernel_rfl) (by kernel_rfl) (fun _ _ _ h => h) (Or.inl ⟨by rfl, ?y26_36⟩) hHeld ?r26_36
                    case y26_36 => (intro w hSw; (try dsimp only at hSw); go_split_ands; go_simp; try with_reducible rfl)
                    try simp only [List.getElem_toArray, List.getElem_cons_succ, List.getElem_cons_zero, Act.put, List.setIfInBounds_toArray, List.set_cons_zero, List.set_cons_succ]
                    refine wpAnyH_take (i := 27) (v := ?v27_37) rfl (by kernel_rfl) (by kernel_rfl) (by kernel_rfl) (fun _ _ _ h => h) (Or.inl ⟨by rfl, ?y27_37⟩) hHeld ?r27_37
                    case y27_37 => (intro w hSw; (try dsimp only at hSw); go_split_ands; go_simp; try with_reducible rfl)
                    try simp only [List.getElem_toArray, List.getElem_cons_succ, List.getElem_cons_zero, Act.put, List.setIfInBounds_toArray, List.set_cons_zero, List.set_cons_succ]
                    refine wpAnyH_take (i := 28) (v := ?v28_38) rfl (by kernel_rfl) (by kernel_rfl) (by kernel_rfl) (fun _ _ _ h => h) (Or.inl ⟨by rfl, ?y28_38⟩) hHeld ?r28_38
                    case y28_38 => (intro w hSw; (try dsimp only at hSw); go_split_ands; go_simp; try with_reducible rfl)
                    try simp only [List.getElem_toArray, List.getElem_cons_succ, List.getElem_cons_zero, Act.put, List.setIfInBounds_toArray, List.set_cons_zero, List.set_cons_succ]
                    refine wpAnyH_take (i := 29) (v := ?v29_39) rfl (by kernel_rfl) (by kernel_rfl) (by kernel_rfl) (fun _ _ _ h => h) (Or.inl ⟨by rfl, ?y29_39⟩) hHeld ?r29_39
                    case y29_39 => (intro w hSw; (try dsimp only at hSw); go_split_ands; go_simp; try with_reducible rfl)
                    try simp only [List.getElem_toArray, List.getElem_cons_succ, List.getElem_cons_zero, Act.put, List.setIfInBounds_toArray, List.set_cons_zero, List.set_cons_succ]
                    refine wpAnyH_take (i := 30) (v := ?v30_40) rfl (by kernel_rfl) (by kernel_rfl) (by kernel_rfl) (fun _ _ _ h => h) (Or.inl ⟨by rfl, ?y30_40⟩) hHeld ?r30_40
                    case y30_40 => (intro w hSw; (try dsimp only at hSw); go_split_ands; go_simp; try with_reducible rfl)
                    try simp only [List.getElem_toArray, List.getElem_cons_succ, List.getElem_cons_zero, Act.put, List.setIfInBounds_toArray, List.set_cons_zero, List.set_cons_succ]
                    refine wpAnyH_take (i := 31) (v := ?v31_41) rfl (by kernel_rfl) (by kernel_rfl) (by kernel_rfl) (fun _ _ _ h => h) (Or.inl ⟨by rfl, ?y31_41⟩) hHeld ?r31_41
                    case y31_41 => (intro w hSw; (try dsimp only at hSw); go_split_ands; go_simp; try with_reducible rfl)
                    try simp only [List.getElem_toArray, List.getElem_cons_succ, List.getElem_cons_zero, Act.put, List.setIfInBounds_toArray, List.set_cons_zero, List.set_cons_succ]
                    refine wpAnyH_ready (rs := [20]) (by kernel_rfl) (by simp) ?_
                    refine AllReadyH.cons rfl (fun K hK => ?_) AllReadyH.nil
                    have hHeld' := hHeld
                    try dsimp only at hHeld'
                    go_split_ands
                    go_simp
                    first | with_reducible refine (hCk.out _ hbd.out).mono ?_ | refine (hCk.out _ hbd.out).mono ?_
                    rintro e w11 ⟨rfl, hb11⟩
                    have hbe := Lib.hid (hbd.out.tr hb11)
                    refine hK.out _ _ ?_ (fun hHeld => ?_)
                    · exact hS.out _ hbe.out
                    clear hK K
                    try simp only [List.getElem_toArray, List.getElem_cons_succ, List.getElem_cons_zero, Act.put, List.setIfInBounds_toArray, List.set_cons_zero, List.set_cons_succ]
                    refine wpAnyH_ready (rs := [32]) (by kernel_rfl) (by simp) ?_
                    refine AllReadyH.cons rfl (fun K hK => ?_) AllReadyH.nil
                    have hHeld' := hHeld
                    try dsimp only at hHeld'
                    go_split_ands
                    go_simp
                    first | with_reducible refine (hDk.out _ hbe.out).mono ?_ | refine (hDk.out _ hbe.out).mono ?_
                    rintro e w12 ⟨rfl, hb12⟩
                    have hbf := Lib.hid (hbe.out.tr hb12)
                    have hbz2 := Lib.hid ((hbz.out.dr.tr hb11).tr hb12)
                    refine hK.out _ _ ?_ (fun hHeld => ?_)
                    · exact hS.out _ hbf.out
                    clear hK K
                    try simp only [List.getElem_toArray, List.getElem_cons_succ, List.getElem_cons_zero, Act.put, List.setIfInBounds_toArray, List.set_cons_zero, List.set_cons_succ]
                    refine wpAnyH_take (i := 33) (v := ?v33_42) rfl (by kernel_rfl) (by kernel_rfl) (by kernel_rfl) (fun _ _ _ h => h) (Or.inl ⟨by rfl, ?y33_42⟩) hHeld ?r33_42
                    case y33_42 => (intro w hSw; (try dsimp only at hSw); go_split_ands; go_simp; try with_reducible rfl)
                    try simp only [List.getElem_toArray, List.getElem_cons_succ, List.getElem_cons_zero, Act.put, List.setIfInBounds_toArray, List.set_cons_zero, List.set_cons_succ]
                    refine wpAnyH_take (i := 34) (v := ?v34_43) rfl (by kernel_rfl) (by kernel_rfl) (by kernel_rfl) (fun _ _ _ h => h) (Or.inl ⟨by rfl, ?y34_43⟩) hHeld ?r34_43
                    case y34_43 => (intro w hSw; (try dsimp only at hSw); go_split_ands; go_simp; try with_reducible rfl)
                    try simp only [List.getElem_toArray, List.getElem_cons_succ, List.getElem_cons_zero, Act.put, List.setIfInBounds_toArray, List.set_cons_zero, List.set_cons_succ]
                    refine wpAnyH_done (by kernel_rfl) ?_ _
                    go_wp2_with fail
                    go_roundw
                    case rel => exact ⟨k + 1, by omega, by go_num, hbz2.out⟩
                    case measure => simp [intOf] <;> omega
                · obtain rfl : N = k := by omega
                  replace hbt2 := Lib.hid hbt2
                  have RT3 := RT2.out _ hbt2.out
                  replace RT3 := Lib.hid RT3
                  go_wp2_with fail
                  first | with_reducible refine (RT3.out).mono ?_ | refine (RT3.out).mono ?_
                  rintro e w13 ⟨vs, rfl, hSo, hb13⟩
                  have hSi := OwnB.ints hSo
                  have hRi2 : IntsAt w13 (.slice aR nr cR) R := by
                    exact hRi.out.below (((hw8.tr hb9).tr hbz).tr hb13)
                  have hml : R.length ≤ maxLen := by rw [hnr.out]; unfold maxLen; omega
                  have SM := same_any R R (.slice aR nr cR) vs w13 hRi2 hSi hml hml
                  rw [show decide (R = R) = true from decide_eq_true rfl] at SM
                  have hbh := hb5.out.tr (hbt2.out.tr hb13)
                  replace SM := Lib.hid SM
                  replace hbh := Lib.hid hbh
                  clear RT3 hSo hSi hRi2
                  go_wp2_with fail
                  first | with_reducible refine (SM.out).mono ?_ | refine (SM.out).mono ?_
                  rintro e w14 ⟨rfl, hb14⟩
                  go_wp2_with fail
                  first | with_reducible refine (LV.out _).mono ?_ | refine (LV.out _).mono ?_
                  rintro e w15 ⟨rfl, hb15⟩
                  have hbi := (hbh.out.tr hb14).tr hb15
                  go_wp2_with fail
                  go_ret
                  exact ⟨rfl, hbi⟩
            | false =>
              have CE1 := CE1.out
              simp only [Bool.false_eq_true, if_false] at CE1
              replace CE1 := Lib.hid CE1
              go_wp2_with fail
              first | with_reducible refine (CE1.out).mono ?_ | refine (CE1.out).mono ?_
              rintro e w9 ⟨rfl, hb9⟩
              have hb9' := hbt.out.tr hb9
              have hX10 := blk_bl hX.out hb9'
              obtain ⟨y0, y1, y2, y3, y4⟩ := five hX10
              replace hb9' := Lib.hid hb9'
              clear CE1
              go_wp2_with fail
              clear y0 y1 y2 y3 y4
              go_loopw [22] (fun i wz => ∃ k : Nat, k ≤ N ∧ i = I k ∧ Bl w9 wz) (fun i _ => N - (intOf i).toNat)
              case atStart => exact ⟨0, by omega, rfl, Bl.rfl' _⟩
              case round =>
                obtain ⟨k, hk, rfl, hbz⟩ := hrel
                have hbt2 := hb9'.out.tr hbz
                by_cases hlt : k < N
                · have hbd := hbt2.dr
                  have hRGd := hRG.out.bl hbd
                  have hX11 := blk_bl hX.out hbd
                  have hcel := fun w' (hb : Bl w6 w') => ((hRG.out.bl hb).c0 cB_len c0 k (by rw [hN.out]; exact hlt)).2
                  have hye := fun w' (hb : Bl w6 w') => (five (blk_bl hX.out hb)).1
                  have hCk := fun w' hb => hCh.out w' hb k hlt
                  have hDk := fun w' hb => hDh.out w' hb k hlt
                  have hEk := hEq.out k
                  obtain ⟨z, hz⟩ : ∃ z, G.getD k c0 = z := ⟨_, rfl⟩
                  simp only [hz] at hcel hCk hDk hEk
                  obtain ⟨zs, zr, zv, zf, zt⟩ := z
                  have hS : ∀ w', Bl w6 w' → w'.cell? ⟨gG, k * 5, none⟩ = some (I zs) ∧ w'.cell? ⟨gG, k * 5 + 1, none⟩ = some (I zr) ∧ w'.cell? ⟨gG, k * 5 + 2, none⟩ = some (I zv) ∧ w'.cell? ⟨gG, k * 5 + 3, none⟩ = some (I zf) ∧ w'.cell? ⟨gG, k * 5 + 4, none⟩ = some (I zt) ∧ w'.cell? ⟨y, 0, none⟩ = some (I xs) := fun w' hb =>
                    ⟨hcel w' hb 0 (by decide), hcel w' hb 1 (by decide), hcel w' hb 2 (by decide), hcel w' hb 3 (by decide), hcel w' hb 4 (by decide), hye w' hb⟩
                  replace hbd := Lib.hid hbd
                  replace hS := Lib.hid hS
                  replace hCk := Lib.hid hCk
                  replace hDk := Lib.hid hDk
                  replace hEk := Lib.hid hEk
                  replace hbz := Lib.hid hbz
                  clear hRGd hX11 hcel hye hz hbt2
                  go_wp2_with fail
                  refine wp_region_held_drew (S := fun w' => w'.cell? ⟨gG, k * 5, none⟩ = some (I zs) ∧ w'.cell? ⟨gG, k * 5 + 1, none⟩ = some (I zr) ∧ w'.cell? ⟨gG, k * 5 + 2, none⟩ = some (I zv) ∧ w'.cell? ⟨gG, k * 5 + 3, none⟩ = some (I zf) ∧ w'.cell? ⟨gG, k * 5 + 4, none⟩ = some (I zt) ∧ w'.cell? ⟨y, 0, none⟩ = some (I xs)) (by kernel_rfl) ?_ (fun hHeld => ?_)
                  · exact hS.out _ hbd.out
                  by_cases hzx : zs = xs
                  · have zb : (zs != xs) = false := by rw [hzx]; simp
                    have zb2 : (zs == xs) = true := by rw [hzx]; simp
                    replace hzx := Lib.hid hzx
                    refine wpAnyH_take (i := 0) (v := ?v0_44) rfl (by kernel_rfl) (by kernel_rfl) (by kernel_rfl) (fun _ _ _ h => h) (Or.inl ⟨by rfl, ?y0_44⟩) hHeld ?r0_44
                    case y0_44 => (intro w hSw; (try dsimp only at hSw); go_split_ands; go_simp; try with_reducible rfl)
                    try simp only [List.getElem_toArray, List.getElem_cons_succ, List.getElem_cons_zero, Act.put, List.setIfInBounds_toArray, List.set_cons_zero, List.set_cons_succ]
                    refine wpAnyH_take (i := 1) (v := ?v1_45) rfl (by kernel_rfl) (by kernel_rfl) (by kernel_rfl) (fun _ _ _ h => h) (Or.inl ⟨by rfl, ?y1_45⟩) hHeld ?r1_45
                    case y1_45 => (intro w hSw; (try dsimp only at hSw); go_split_ands; go_simp; try with_reducible rfl)
                    try simp only [List.getElem_toArray, List.getElem_cons_succ, List.getElem_cons_zero, Act.put, List.setIfInBounds_toArray, List.set_cons_zero, List.set_cons_succ]
                    refine wpAnyH_take (i := 2) (v := ?v2_46) rfl (by kernel_rfl) (by kernel_rfl) (by kernel_rfl) (fun _ _ _ h => h) (Or.inl ⟨by rfl, ?y2_46⟩) hHeld ?r2_46
                    case y2_46 => (intro w hSw; (try dsimp only at hSw); go_split_ands; go_simp; try with_reducible rfl)
                    try simp only [List.getElem_toArray, List.getElem_cons_succ, List.getElem_cons_zero, Act.put, List.setIfInBounds_toArray, List.set_cons_zero, List.set_cons_succ]
                    refine wpAnyH_take (i := 3) (v := ?v3_47) rfl (by kernel_rfl) (by kernel_rfl) (by kernel_rfl) (fun _ _ _ h => h) (Or.inl ⟨by rfl, ?y3_47⟩) hHeld ?r3_47
                    case y3_47 => (intro w hSw; (try dsimp only at hSw); go_split_ands; go_simp; try with_reducible rfl)
                    try simp only [List.getElem_toArray, List.getElem_cons_succ, List.getElem_cons_zero, Act.put, List.setIfInBounds_toArray, List.set_cons_zero, List.set_cons_succ]
                    refine wpAnyH_take (i := 4) (v := ?v4_48) rfl (by kernel_rfl) (by kernel_rfl) (by kernel_rfl) (fun _ _ _ h => h) (Or.inl ⟨by rfl, ?y4_48⟩) hHeld ?r4_48
                    case y4_48 => (intro w hSw; (try dsimp only at hSw); go_split_ands; go_simp; try with_reducible rfl)
                    try simp only [List.getElem_toArray, List.getElem_cons_succ, List.getElem_cons_zero, Act.put, List.setIfInBounds_toArray, List.set_cons_zero, List.set_cons_succ]
                    refine wpAnyH_take (i := 5) (v := ?v5_49) rfl (by kernel_rfl) (by kernel_rfl) (by kernel_rfl) (fun _ _ _ h => h) (Or.inl ⟨by rfl, ?y5_49⟩) hHeld ?r5_49
                    case y5_49 => (intro w hSw; (try dsimp only at hSw); go_split_ands; go_simp; try with_reducible rfl)
                    try simp only [List.getElem_toArray, List.getElem_cons_succ, List.getElem_cons_zero, Act.put, List.setIfInBounds_toArray, List.set_cons_zero, List.set_cons_succ]
                    refine wpAnyH_take (i := 6) (v := ?v6_50) rfl (by kernel_rfl) (by kernel_rfl) (by kernel_rfl) (fun _ _ _ h => h) (Or.inl ⟨by rfl, ?y6_50⟩) hHeld ?r6_50
                    case y6_50 => (intro w hSw; (try dsimp only at hSw); go_split_ands; go_simp; try with_reducible rfl)
                    try simp only [List.getElem_toArray, List.getElem_cons_succ, List.getElem_cons_zero, Act.put, List.setIfInBounds_toArray, List.set_cons_zero, List.set_cons_succ]
                    refine wpAnyH_take (i := 7) (v := ?v7_51) rfl (by kernel_rfl) (by kernel_rfl) (by kernel_rfl) (fun _ _ _ h => h) (Or.inl ⟨by rfl, ?y7_51⟩) hHeld ?r7_51
                    case y7_51 => (intro w hSw; (try dsimp only at hSw); go_split_ands; go_simp; try with_reducible rfl)
                    try simp only [List.getElem_toArray, List.getElem_cons_succ, List.getElem_cons_zero, Act.put, List.setIfInBounds_toArray, List.set_cons_zero, List.set_cons_succ]
                    refine wpAnyH_take (i := 8) (v := ?v8_52) rfl (by kernel_rfl) (by kernel_rfl) (by kernel_rfl) (fun _ _ _ h => h) (Or.inl ⟨by rfl, ?y8_52⟩) hHeld ?r8_52
                    case y8_52 => (intro w hSw; (try dsimp only at hSw); go_split_ands; go_simp; try with_reducible rfl)
                    try simp only [List.getElem_toArray, List.getElem_cons_succ, List.getElem_cons_zero, Act.put, List.setIfInBounds_toArray, List.set_cons_zero, List.set_cons_succ]
                    refine wpAnyH_take (i := 9) (v := undef) rfl (by kernel_rfl) (by kernel_rfl) (by kernel_rfl) (fun _ _ _ h => h) (Or.inr ⟨by rfl, rfl⟩) hHeld ?_
                    try simp only [List.getElem_toArray, List.getElem_cons_succ, List.getElem_cons_zero, Act.put, List.setIfInBounds_toArray, List.set_cons_zero, List.set_cons_succ]
                    refine wpAnyH_take (i := 10) (v := undef) rfl (by kernel_rfl) (by kernel_rfl) (by kernel_rfl) (fun _ _ _ h => h) (Or.inr ⟨by rfl, rfl⟩) hHeld ?_
                    try simp only [List.getElem_toArray, List.getElem_cons_succ, List.getElem_cons_zero, Act.put, List.setIfInBounds_toArray, List.set_cons_zero, List.set_cons_succ]
                    refine wpAnyH_take (i := 11) (v := undef) rfl (by kernel_rfl) (by kernel_rfl) (by kernel_rfl) (fun _ _ _ h => h) (Or.inr ⟨by rfl, rfl⟩) hHeld ?_
                    try simp only [List.getElem_toArray, List.getElem_cons_succ, List.getElem_cons_zero, Act.put, List.setIfInBounds_toArray, List.set_cons_zero, List.set_cons_succ]
                    refine wpAnyH_take (i := 12) (v := undef) rfl (by kernel_rfl) (by kernel_rfl) (by kernel_rfl) (fun _ _ _ h => h) (Or.inr ⟨by rfl, rfl⟩) hHeld ?_
                    try simp only [List.getElem_toArray, List.getElem_cons_succ, List.getElem_cons_zero, Act.put, List.setIfInBounds_toArray, List.set_cons_zero, List.set_cons_succ]
                    refine wpAnyH_take (i := 13) (v := undef) rfl (by kernel_rfl) (by kernel_rfl) (by kernel_rfl) (fun _ _ _ h => h) (Or.inr ⟨by rfl, rfl⟩) hHeld ?_
                    try simp only [List.getElem_toArray, List.getElem_cons_succ, List.getElem_cons_zero, Act.put, List.setIfInBounds_toArray, List.set_cons_zero, List.set_cons_succ]
                    refine wpAnyH_take (i := 14) (v := undef) rfl (by kernel_rfl) (by kernel_rfl) (by kernel_rfl) (fun _ _ _ h => h) (Or.inr ⟨by rfl, rfl⟩) hHeld ?_
                    try simp only [List.getElem_toArray, List.getElem_cons_succ, List.getElem_cons_zero, Act.put, List.setIfInBounds_toArray, List.set_cons_zero, List.set_cons_succ]
                    refine wpAnyH_take (i := 15) (v := undef) rfl (by kernel_rfl) (by kernel_rfl) (by kernel_rfl) (fun _ _ _ h => h) (Or.inr ⟨by rfl, rfl⟩) hHeld ?_
                    try simp only [List.getElem_toArray, List.getElem_cons_succ, List.getElem_cons_zero, Act.put, List.setIfInBounds_toArray, List.set_cons_zero, List.set_cons_succ]
                    refine wpAnyH_take (i := 16) (v := undef) rfl (by kernel_rfl) (by kernel_rfl) (by kernel_rfl) (fun _ _ _ h => h) (Or.inr ⟨by rfl, rfl⟩) hHeld ?_
                    try simp only [List.getElem_toArray, List.getElem_cons_succ, List.getElem_cons_zero, Act.put, List.setIfInBounds_toArray, List.set_cons_zero, List.set_cons_succ]
                    refine wpAnyH_take (i := 17) (v := undef) rfl (by kernel_rfl) (by kernel_rfl) (by kernel_rfl) (fun _ _ _ h => h) (Or.inr ⟨by rfl, rfl⟩) hHeld ?_
                    try simp only [List.getElem_toArray, List.getElem_cons_succ, List.getElem_cons_zero, Act.put, List.setIfInBounds_toArray, List.set_cons_zero, List.set_cons_succ]
                    refine wpAnyH_take (i := 18) (v := undef) rfl (by kernel_rfl) (by kernel_rfl) (by kernel_rfl) (fun _ _ _ h => h) (Or.inr ⟨by rfl, rfl⟩) hHeld ?_
                    try simp only [List.getElem_toArray, List.getElem_cons_succ, List.getElem_cons_zero, Act.put, List.setIfInBounds_toArray, List.set_cons_zero, List.set_cons_succ]
                    refine wpAnyH_take (i := 19) (v := undef) rfl (by kernel_rfl) (by kernel_rfl) (by kernel_rfl) (fun _ _ _ h => h) (Or.inr ⟨by rfl, rfl⟩) hHeld ?_
                    try simp only [List.getElem_toArray, List.getElem_cons_succ, List.getElem_cons_zero, Act.put, List.setIfInBounds_toArray, List.set_cons_zero, List.set_cons_succ]
                    refine wpAnyH_take (i := 20) (v := undef) rfl (by kernel_rfl) (by kernel_rfl) (by kernel_rfl) (fun _ _ _ h => h) (Or.inr ⟨by rfl, rfl⟩) hHeld ?_
                    try simp only [List.getElem_toArray, List.getElem_cons_succ, List.getElem_cons_zero, Act.put, List.setIfInBounds_toArray, List.set_cons_zero, List.set_cons_succ]
                    refine wpAnyH_take (i := 21) (v := undef) rfl (by kernel_rfl) (by kernel_rfl) (by kernel_rfl) (fun _ _ _ h => h) (Or.inr ⟨by rfl, rfl⟩) hHeld ?_
                    try simp only [List.getElem_toArray, List.getElem_cons_succ, List.getElem_cons_zero, Act.put, List.setIfInBounds_toArray, List.set_cons_zero, List.set_cons_succ]
                    refine wpAnyH_take (i := 22) (v := undef) rfl (by kernel_rfl) (by kernel_rfl) (by kernel_rfl) (fun _ _ _ h => h) (Or.inr ⟨by rfl, rfl⟩) hHeld ?_
                    try simp only [List.getElem_toArray, List.getElem_cons_succ, List.getElem_cons_zero, Act.put, List.setIfInBounds_toArray, List.set_cons_zero, List.set_cons_succ]
                    refine wpAnyH_take (i := 23) (v := undef) rfl (by kernel_rfl) (by kernel_rfl) (by kernel_rfl) (fun _ _ _ h => h) (Or.inr ⟨by rfl, rfl⟩) hHeld ?_
                    try simp only [List.getElem_toArray, List.getElem_cons_succ, List.getElem_cons_zero, Act.put, List.setIfInBounds_toArray, List.set_cons_zero, List.set_cons_succ]
                    refine wpAnyH_take (i := 24) (v := undef) rfl (by kernel_rfl) (by kernel_rfl) (by kernel_rfl) (fun _ _ _ h => h) (Or.inr ⟨by rfl, rfl⟩) hHeld ?_
                    try simp only [List.getElem_toArray, List.getElem_cons_succ, List.getElem_cons_zero, Act.put, List.setIfInBounds_toArray, List.set_cons_zero, List.set_cons_succ]
                    refine wpAnyH_take (i := 25) (v := undef) rfl (by kernel_rfl) (by kernel_rfl) (by kernel_rfl) (fun _ _ _ h => h) (Or.inr ⟨by rfl, rfl⟩) hHeld ?_
                    try simp only [List.getElem_toArray, List.getElem_cons_succ, List.getElem_cons_zero, Act.put, List.setIfInBounds_toArray, List.set_cons_zero, List.set_cons_succ]
                    refine wpAnyH_take (i := 26) (v := undef) rfl (by kernel_rfl) (by kernel_rfl) (by kernel_rfl) (fun _ _ _ h => h) (Or.inr ⟨by rfl, rfl⟩) hHeld ?_
                    try simp only [List.getElem_toArray, List.getElem_cons_succ, List.getElem_cons_zero, Act.put, List.setIfInBounds_toArray, List.set_cons_zero, List.set_cons_succ]
                    refine wpAnyH_take (i := 27) (v := undef) rfl (by kernel_rfl) (by kernel_rfl) (by kernel_rfl) (fun _ _ _ h => h) (Or.inr ⟨by rfl, rfl⟩) hHeld ?_
                    try simp only [List.getElem_toArray, List.getElem_cons_succ, List.getElem_cons_zero, Act.put, List.setIfInBounds_toArray, List.set_cons_zero, List.set_cons_succ]
                    refine wpAnyH_take (i := 28) (v := undef) rfl (by kernel_rfl) (by kernel_rfl) (by kernel_rfl) (fun _ _ _ h => h) (Or.inr ⟨by rfl, rfl⟩) hHeld ?_
                    try simp only [List.getElem_toArray, List.getElem_cons_succ, List.getElem_cons_zero, Act.put, List.setIfInBounds_toArray, List.set_cons_zero, List.set_cons_succ]
                    refine wpAnyH_take (i := 29) (v := undef) rfl (by kernel_rfl) (by kernel_rfl) (by kernel_rfl) (fun _ _ _ h => h) (Or.inr ⟨by rfl, rfl⟩) hHeld ?_
                    try simp only [List.getElem_toArray, List.getElem_cons_succ, List.getElem_cons_zero, Act.put, List.setIfInBounds_toArray, List.set_cons_zero, List.set_cons_succ]
                    refine wpAnyH_take (i := 30) (v := undef) rfl (by kernel_rfl) (by kernel_rfl) (by kernel_rfl) (fun _ _ _ h => h) (Or.inr ⟨by rfl, rfl⟩) hHeld ?_
                    try simp only [List.getElem_toArray, List.getElem_cons_succ, List.getElem_cons_zero, Act.put, List.setIfInBounds_toArray, List.set_cons_zero, List.set_cons_succ]
                    refine wpAnyH_take (i := 31) (v := undef) rfl (by kernel_rfl) (by kernel_rfl) (by kernel_rfl) (fun _ _ _ h => h) (Or.inr ⟨by rfl, rfl⟩) hHeld ?_
                    try simp only [List.getElem_toArray, List.getElem_cons_succ, List.getElem_cons_zero, Act.put, List.setIfInBounds_toArray, List.set_cons_zero, List.set_cons_succ]
                    refine wpAnyH_take (i := 32) (v := undef) rfl (by kernel_rfl) (by kernel_rfl) (by kernel_rfl) (fun _ _ _ h => h) (Or.inr ⟨by rfl, rfl⟩) hHeld ?_
                    try simp only [List.getElem_toArray, List.getElem_cons_succ, List.getElem_cons_zero, Act.put, List.setIfInBounds_toArray, List.set_cons_zero, List.set_cons_succ]
                    refine wpAnyH_take (i := 33) (v := undef) rfl (by kernel_rfl) (by kernel_rfl) (by kernel_rfl) (fun _ _ _ h => h) (Or.inr ⟨by rfl, rfl⟩) hHeld ?_
                    try simp only [List.getElem_toArray, List.getElem_cons_succ, List.getElem_cons_zero, Act.put, List.setIfInBounds_toArray, List.set_cons_zero, List.set_cons_succ]
                    refine wpAnyH_take (i := 34) (v := ?v34_53) rfl (by kernel_rfl) (by kernel_rfl) (by kernel_rfl) (fun _ _ _ h => h) (Or.inl ⟨by rfl, ?y34_53⟩) hHeld ?r34_53
                    case y34_53 => (intro w hSw; (try dsimp only at hSw); go_split_ands; go_simp; try with_reducible rfl)
                    try simp only [List.getElem_toArray, List.getElem_cons_succ, List.getElem_cons_zero, Act.put, List.setIfInBounds_toArray, List.set_cons_zero, List.set_cons_succ]
                    refine wpAnyH_done (by kernel_rfl) ?_ _
                    go_wp2_with fail
                    go_roundw
                    case rel => exact ⟨k + 1, by omega, by go_num, hbz.out.dr⟩
                    case measure => simp [intOf] <;> omega
                  · have zb : (zs != xs) = true := by simp [hzx]
                    have zb2 : (zs == xs) = false := beq_eq_false_iff_ne.2 hzx
                    have hEe := hEk.out hzx
                    try simp only at hEe
                    have hCk := hCk.out
                    simp only [hEe] at hCk
                    obtain ⟨ee, hee⟩ : ∃ e, chkE U G S ⟨zs, zr, zv, zf, zt⟩ zv at_ = e := ⟨_, rfl⟩
                    have hDk := hDk.out
                    simp only [hee] at hCk hDk
                    replace hzx := Lib.hid hzx
                    replace hCk := Lib.hid hCk
                    replace hDk := Lib.hid hDk
                    clear hEe hee
                    refine wpAnyH_take (i := 0) (v := ?v0_54) rfl (by kernel_rfl) (by kernel_rfl) (by kernel_rfl) (fun _ _ _ h => h) (Or.inl ⟨by rfl, ?y0_54⟩) hHeld ?r0_54
                    case y0_54 => (intro w hSw; (try dsimp only at hSw); go_split_ands; go_simp; try with_reducible rfl)
                    try simp only [List.getElem_toArray, List.getElem_cons_succ, List.getElem_cons_zero, Act.put, List.setIfInBounds_toArray, List.set_cons_zero, List.set_cons_succ]
                    refine wpAnyH_take (i := 1) (v := ?v1_55) rfl (by kernel_rfl) (by kernel_rfl) (by kernel_rfl) (fun _ _ _ h => h) (Or.inl ⟨by rfl, ?y1_55⟩) hHeld ?r1_55
                    case y1_55 => (intro w hSw; (try dsimp only at hSw); go_split_ands; go_simp; try with_reducible rfl)
                    try simp only [List.getElem_toArray, List.getElem_cons_succ, List.getElem_cons_zero, Act.put, List.setIfInBounds_toArray, List.set_cons_zero, List.set_cons_succ]
                    refine wpAnyH_take (i := 2) (v := ?v2_56) rfl (by kernel_rfl) (by kernel_rfl) (by kernel_rfl) (fun _ _ _ h => h) (Or.inl ⟨by rfl, ?y2_56⟩) hHeld ?r2_56
                    case y2_56 => (intro w hSw; (try dsimp only at hSw); go_split_ands; go_simp; try with_reducible rfl)
                    try simp only [List.getElem_toArray, List.getElem_cons_succ, List.getElem_cons_zero, Act.put, List.setIfInBounds_toArray, List.set_cons_zero, List.set_cons_succ]
                    refine wpAnyH_take (i := 3) (v := ?v3_57) rfl (by kernel_rfl) (by kernel_rfl) (by kernel_rfl) (fun _ _ _ h => h) (Or.inl ⟨by rfl, ?y3_57⟩) hHeld ?r3_57
                    case y3_57 => (intro w hSw; (try dsimp only at hSw); go_split_ands; go_simp; try with_reducible rfl)
                    try simp only [List.getElem_toArray, List.getElem_cons_succ, List.getElem_cons_zero, Act.put, List.setIfInBounds_toArray, List.set_cons_zero, List.set_cons_succ]
                    refine wpAnyH_take (i := 4) (v := ?v4_58) rfl (by kernel_rfl) (by kernel_rfl) (by kernel_rfl) (fun _ _ _ h => h) (Or.inl ⟨by rfl, ?y4_58⟩) hHeld ?r4_58
                    case y4_58 => (intro w hSw; (try dsimp only at hSw); go_split_ands; go_simp; try with_reducible rfl)
                    try simp only [List.getElem_toArray, List.getElem_cons_succ, List.getElem_cons_zero, Act.put, List.setIfInBounds_toArray, List.set_cons_zero, List.set_cons_succ]
                    refine wpAnyH_take (i := 5) (v := ?v5_59) rfl (by kernel_rfl) (by kernel_rfl) (by kernel_rfl) (fun _ _ _ h => h) (Or.inl ⟨by rfl, ?y5_59⟩) hHeld ?r5_59
                    case y5_59 => (intro w hSw; (try dsimp only at hSw); go_split_ands; go_simp; try with_reducible rfl)
                    try simp only [List.getElem_toArray, List.getElem_cons_succ, List.getElem_cons_zero, Act.put, List.setIfInBounds_toArray, List.set_cons_zero, List.set_cons_succ]
                    refine wpAnyH_take (i := 6) (v := ?v6_60) rfl (by kernel_rfl) (by kernel_rfl) (by kernel_rfl) (fun _ _ _ h => h) (Or.inl ⟨by rfl, ?y6_60⟩) hHeld ?r6_60
                    case y6_60 => (intro w hSw; (try dsimp only at hSw); go_split_ands; go_simp; try with_reducible rfl)
                    try simp only [List.getElem_toArray, List.getElem_cons_succ, List.getElem_cons_zero, Act.put, List.setIfInBounds_toArray, List.set_cons_zero, List.set_cons_succ]
                    refine wpAnyH_take (i := 7) (v := ?v7_61) rfl (by kernel_rfl) (by kernel_rfl) (by kernel_rfl) (fun _ _ _ h => h) (Or.inl ⟨by rfl, ?y7_61⟩) hHeld ?r7_61
                    case y7_61 => (intro w hSw; (try dsimp only at hSw); go_split_ands; go_simp; try with_reducible rfl)
                    try simp only [List.getElem_toArray, List.getElem_cons_succ, List.getElem_cons_zero, Act.put, List.setIfInBounds_toArray, List.set_cons_zero, List.set_cons_succ]
                    refine wpAnyH_take (i := 8) (v := ?v8_62) rfl (by kernel_rfl) (by kernel_rfl) (by kernel_rfl) (fun _ _ _ h => h) (Or.inl ⟨by rfl, ?y8_62⟩) hHeld ?r8_62
                    case y8_62 => (intro w hSw; (try dsimp only at hSw); go_split_ands; go_simp; try with_reducible rfl)
                    try simp only [List.getElem_toArray, List.getElem_cons_succ, List.getElem_cons_zero, Act.put, List.setIfInBounds_toArray, List.set_cons_zero, List.set_cons_succ]
                    refine wpAnyH_take (i := 9) (v := ?v9_63) rfl (by kernel_rfl) (by kernel_rfl) (by kernel_rfl) (fun _ _ _ h => h) (Or.inl ⟨by rfl, ?y9_63⟩) hHeld ?r9_63
                    case y9_63 => (intro w hSw; (try dsimp only at hSw); go_split_ands; go_simp; try with_reducible rfl)
                    try simp only [List.getElem_toArray, List.getElem_cons_succ, List.getElem_cons_zero, Act.put, List.setIfInBounds_toArray, List.set_cons_zero, List.set_cons_succ]
                    refine wpAnyH_take (i := 10) (v := ?v10_64) rfl (by kernel_rfl) (by kernel_rfl) (by kernel_rfl) (fun _ _ _ h => h) (Or.inl ⟨by rfl, ?y10_64⟩) hHeld ?r10_64
                    case y10_64 => (intro w hSw; (try dsimp only at hSw); go_split_ands; go_simp; try with_reducible rfl)
                    try simp only [List.getElem_toArray, List.getElem_cons_succ, List.getElem_cons_zero, Act.put, List.setIfInBounds_toArray, List.set_cons_zero, List.set_cons_succ]
                    refine wpAnyH_take (i := 11) (v := ?v11_65) rfl (by kernel_rfl) (by kernel_rfl) (by kernel_rfl) (fun _ _ _ h => h) (Or.inl ⟨by rfl, ?y11_65⟩) hHeld ?r11_65
                    case y11_65 => (intro w hSw; (try dsimp only at hSw); go_split_ands; go_simp; try with_reducible rfl)
                    try simp only [List.getElem_toArray, List.getElem_cons_succ, List.getElem_cons_zero, Act.put, List.setIfInBounds_toArray, List.set_cons_zero, List.set_cons_succ]
                    refine wpAnyH_take (i := 12) (v := ?v12_66) rfl (by kernel_rfl) (by kernel_rfl) (by kernel_rfl) (fun _ _ _ h => h) (Or.inl ⟨by rfl, ?y12_66⟩) hHeld ?r12_66
                    case y12_66 => (intro w hSw; (try dsimp only at hSw); go_split_ands; go_simp; try with_reducible rfl)
                    try simp only [List.getElem_toArray, List.getElem_cons_succ, List.getElem_cons_zero, Act.put, List.setIfInBounds_toArray, List.set_cons_zero, List.set_cons_succ]
                    refine wpAnyH_take (i := 13) (v := ?v13_67) rfl (by kernel_rfl) (by kernel_rfl) (by kernel_rfl) (fun _ _ _ h => h) (Or.inl ⟨by rfl, ?y13_67⟩) hHeld ?r13_67
                    case y13_67 => (intro w hSw; (try dsimp only at hSw); go_split_ands; go_simp; try with_reducible rfl)
                    try simp only [List.getElem_toArray, List.getElem_cons_succ, List.getElem_cons_zero, Act.put, List.setIfInBounds_toArray, List.set_cons_zero, List.set_cons_succ]
                    refine wpAnyH_take (i := 14) (v := ?v14_68) rfl (by kernel_rfl) (by kernel_rfl) (by kernel_rfl) (fun _ _ _ h => h) (Or.inl ⟨by rfl, ?y14_68⟩) hHeld ?r14_68
                    case y14_68 => (intro w hSw; (try dsimp only at hSw); go_split_ands; go_simp; try with_reducible rfl)
                    try simp only [List.getElem_toArray, List.getElem_cons_succ, List.getElem_cons_zero, Act.put, List.setIfInBounds_toArray, List.set_cons_zero, List.set_cons_succ]
                    refine wpAnyH_take (i := 15) (v := ?v15_69) rfl (by kernel_rfl) (by kernel_rfl) (by kernel_rfl) (fun _ _ _ h => h) (Or.inl ⟨by rfl, ?y15_69⟩) hHeld ?r15_69
                    case y15_69 => (intro w hSw; (try dsimp only at hSw); go_split_ands; go_simp; try with_reducible rfl)
                    try simp only [List.getElem_toArray, List.getElem_cons_succ, List.getElem_cons_zero, Act.put, List.setIfInBounds_toArray, List.set_cons_zero, List.set_cons_succ]
                    refine wpAnyH_take (i := 16) (v := ?v16_70) rfl (by kernel_rfl) (by kernel_rfl) (by kernel_rfl) (fun _ _ _ h => h) (Or.inl ⟨by rfl, ?y16_70⟩) hHeld ?r16_70
                    case y16_70 => (intro w hSw; (try dsimp only at hSw); go_split_ands; go_simp; try with_reducible rfl)
                    try simp only [List.getElem_toArray, List.getElem_cons_succ, List.getElem_cons_zero, Act.put, List.setIfInBounds_toArray, List.set_cons_zero, List.set_cons_succ]
                    refine wpAnyH_take (i := 17) (v := ?v17_71) rfl (by kernel_rfl) (by kernel_rfl) (by kernel_rfl) (fun _ _ _ h => h) (Or.inl ⟨by rfl, ?y17_71⟩) hHeld ?r17_71
                    case y17_71 => (intro w hSw; (try dsimp only at hSw); go_split_ands; go_simp; try with_reducible rfl)
                    try simp only [List.getElem_toArray, List.getElem_cons_succ, List.getElem_cons_zero, Act.put, List.setIfInBounds_toArray, List.set_cons_zero, List.set_cons_succ]
                    refine wpAnyH_take (i := 18) (v := ?v18_72) rfl (by kernel_rfl) (by kernel_rfl) (by kernel_rfl) (fun _ _ _ h => h) (Or.inl ⟨by rfl, ?y18_72⟩) hHeld ?r18_72
                    case y18_72 => (intro w hSw; (try dsimp only at hSw); go_split_ands; go_simp; try with_reducible rfl)
                    try simp only [List.getElem_toArray, List.getElem_cons_succ, List.getElem_cons_zero, Act.put, List.setIfInBounds_toArray, List.set_cons_zero, List.set_cons_succ]
                    refine wpAnyH_take (i := 19) (v := ?v19_73) rfl (by kernel_rfl) (by kernel_rfl) (by kernel_rfl) (fun _ _ _ h => h) (Or.inl ⟨by rfl, ?y19_73⟩) hHeld ?r19_73
                    case y19_73 => (intro w hSw; (try dsimp only at hSw); go_split_ands; go_simp; try with_reducible rfl)
                    try simp only [List.getElem_toArray, List.getElem_cons_succ, List.getElem_cons_zero, Act.put, List.setIfInBounds_toArray, List.set_cons_zero, List.set_cons_succ]
                    refine wpAnyH_take (i := 21) (v := ?v21_74) rfl (by kernel_rfl) (by kernel_rfl) (by kernel_rfl) (fun _ _ _ h => h) (Or.inl ⟨by rfl, ?y21_74⟩) hHeld ?r21_74
                    case y21_74 => (intro w hSw; (try dsimp only at hSw); go_split_ands; go_simp; try with_reducible rfl)
                    try simp only [List.getElem_toArray, List.getElem_cons_succ, List.getElem_cons_zero, Act.put, List.setIfInBounds_toArray, List.set_cons_zero, List.set_cons_succ]
                    refine wpAnyH_take (i := 22) (v := ?v22_75) rfl (by kernel_rfl) (by kernel_rfl) (by kernel_rfl) (fun _ _ _ h => h) (Or.inl ⟨by rfl, ?y22_75⟩) hHeld ?r22_75
                    case y22_75 => (intro w hSw; (try dsimp only at hSw); go_split_ands; go_simp; try with_reducible rfl)
                    try simp only [List.getElem_toArray, List.getElem_cons_succ, List.getElem_cons_zero, Act.put, List.setIfInBounds_toArray, List.set_cons_zero, List.set_cons_succ]
                    refine wpAnyH_take (i := 23) (v := ?v23_76) rfl (by kernel_rfl) (by kernel_rfl) (by kernel_rfl) (fun _ _ _ h => h) (Or.inl ⟨by rfl, ?y23_76⟩) hHeld ?r23_76
                    case y23_76 => (intro w hSw; (try dsimp only at hSw); go_split_ands; go_simp; try with_reducible rfl)
                    try simp only [List.getElem_toArray, List.getElem_cons_succ, List.getElem_cons_zero, Act.put, List.setIfInBounds_toArray, List.set_cons_zero, List.set_cons_succ]
                    refine wpAnyH_take (i := 24) (v := ?v24_77) rfl (by kernel_rfl) (by kernel_rfl) (by kernel_rfl) (fun _ _ _ h => h) (Or.inl ⟨by rfl, ?y24_77⟩) hHeld ?r24_77
                    case y24_77 => (intro w hSw; (try dsimp only at hSw); go_split_ands; go_simp; try with_reducible rfl)
                    try simp only [List.getElem_toArray, List.getElem_cons_succ, List.getElem_cons_zero, Act.put, List.setIfInBounds_toArray, List.set_cons_zero, List.set_cons_succ]
                    refine wpAnyH_take (i := 25) (v := ?v25_78) rfl (by kernel_rfl) (by kernel_rfl) (by kernel_rfl) (fun _ _ _ h => h) (Or.inl ⟨by rfl, ?y25_78⟩) hHeld ?r25_78
                    case y25_78 => (intro w hSw; (try dsimp only at hSw); go_split_ands; go_simp; try with_reducible rfl)
                    try simp only [List.getElem_toArray, List.getElem_cons_succ, List.getElem_cons_zero, Act.put, List.setIfInBounds_toArray, List.set_cons_zero, List.set_cons_succ]
                    refine wpAnyH_take (i := 26) (v := ?v26_79) rfl (by kernel_rfl) (by kernel_rfl) (by kernel_rfl) (fun _ _ _ h => h) (Or.inl ⟨by rfl, ?y26_79⟩) hHeld ?r26_79
                    case y26_79 => (intro w hSw; (try dsimp only at hSw); go_split_ands; go_simp; try with_reducible rfl)
                    try simp only [List.getElem_toArray, List.getElem_cons_succ, List.getElem_cons_zero, Act.put, List.setIfInBounds_toArray, List.set_cons_zero, List.set_cons_succ]
                    refine wpAnyH_take (i := 27) (v := ?v27_80) rfl (by kernel_rfl) (by kernel_rfl) (by kernel_rfl) (fun _ _ _ h => h) (Or.inl ⟨by rfl, ?y27_80⟩) hHeld ?r27_80
                    case y27_80 => (intro w hSw; (try dsimp only at hSw); go_split_ands; go_simp; try with_reducible rfl)
                    try simp only [List.getElem_toArray, List.getElem_cons_succ, List.getElem_cons_zero, Act.put, List.setIfInBounds_toArray, List.set_cons_zero, List.set_cons_succ]
                    refine wpAnyH_take (i := 28) (v := ?v28_81) rfl (by kernel_rfl) (by kernel_rfl) (by kernel_rfl) (fun _ _ _ h => h) (Or.inl ⟨by rfl, ?y28_81⟩) hHeld ?r28_81
                    case y28_81 => (intro w hSw; (try dsimp only at hSw); go_split_ands; go_simp; try with_reducible rfl)
                    try simp only [List.getElem_toArray, List.getElem_cons_succ, List.getElem_cons_zero, Act.put, List.setIfInBounds_toArray, List.set_cons_zero, List.set_cons_succ]
                    refine wpAnyH_take (i := 29) (v := ?v29_82) rfl (by kernel_rfl) (by kernel_rfl) (by kernel_rfl) (fun _ _ _ h => h) (Or.inl ⟨by rfl, ?y29_82⟩) hHeld ?r29_82
                    case y29_82 => (intro w hSw; (try dsimp only at hSw); go_split_ands; go_simp; try with_reducible rfl)
                    try simp only [List.getElem_toArray, List.getElem_cons_succ, List.getElem_cons_zero, Act.put, List.setIfInBounds_toArray, List.set_cons_zero, List.set_cons_succ]
                    refine wpAnyH_take (i := 30) (v := ?v30_83) rfl (by kernel_rfl) (by kernel_rfl) (by kernel_rfl) (fun _ _ _ h => h) (Or.inl ⟨by rfl, ?y30_83⟩) hHeld ?r30_83
                    case y30_83 => (intro w hSw; (try dsimp only at hSw); go_split_ands; go_simp; try with_reducible rfl)
                    try simp only [List.getElem_toArray, List.getElem_cons_succ, List.getElem_cons_zero, Act.put, List.setIfInBounds_toArray, List.set_cons_zero, List.set_cons_succ]
                    refine wpAnyH_take (i := 31) (v := ?v31_84) rfl (by kernel_rfl) (by kernel_rfl) (by kernel_rfl) (fun _ _ _ h => h) (Or.inl ⟨by rfl, ?y31_84⟩) hHeld ?r31_84
                    case y31_84 => (intro w hSw; (try dsimp only at hSw); go_split_ands; go_simp; try with_reducible rfl)
                    try simp only [List.getElem_toArray, List.getElem_cons_succ, List.getElem_cons_zero, Act.put, List.setIfInBounds_toArray, List.set_cons_zero, List.set_cons_succ]
                    refine wpAnyH_ready (rs := [20]) (by kernel_rfl) (by simp) ?_
                    refine AllReadyH.cons rfl (fun K hK => ?_) AllReadyH.nil
                    have hHeld' := hHeld
                    try dsimp only at hHeld'
                    go_split_ands
                    go_simp
                    first | with_reducible refine (hCk.out _ hbd.out).mono ?_ | refine (hCk.out _ hbd.out).mono ?_
                    rintro e w11 ⟨rfl, hb11⟩
                    have hbe := Lib.hid (hbd.out.tr hb11)
                    refine hK.out _ _ ?_ (fun hHeld => ?_)
                    · exact hS.out _ hbe.out
                    clear hK K
                    try simp only [List.getElem_toArray, List.getElem_cons_succ, List.getElem_cons_zero, Act.put, List.setIfInBounds_toArray, List.set_cons_zero, List.set_cons_succ]
                    refine wpAnyH_ready (rs := [32]) (by kernel_rfl) (by simp) ?_
                    refine AllReadyH.cons rfl (fun K hK => ?_) AllReadyH.nil
                    have hHeld' := hHeld
                    try dsimp only at hHeld'
                    go_split_ands
                    go_simp
                    first | with_reducible refine (hDk.out _ hbe.out).mono ?_ | refine (hDk.out _ hbe.out).mono ?_
                    rintro e w12 ⟨rfl, hb12⟩
                    have hbf := Lib.hid (hbe.out.tr hb12)
                    have hbz2 := Lib.hid ((hbz.out.dr.tr hb11).tr hb12)
                    refine hK.out _ _ ?_ (fun hHeld => ?_)
                    · exact hS.out _ hbf.out
                    clear hK K
                    try simp only [List.getElem_toArray, List.getElem_cons_succ, List.getElem_cons_zero, Act.put, List.setIfInBounds_toArray, List.set_cons_zero, List.set_cons_succ]
                    refine wpAnyH_take (i := 33) (v := ?v33_85) rfl (by kernel_rfl) (by kernel_rfl) (by kernel_rfl) (fun _ _ _ h => h) (Or.inl ⟨by rfl, ?y33_85⟩) hHeld ?r33_85
                    case y33_85 => (intro w hSw; (try dsimp only at hSw); go_split_ands; go_simp; try with_reducible rfl)
                    try simp only [List.getElem_toArray, List.getElem_cons_succ, List.getElem_cons_zero, Act.put, List.setIfInBounds_toArray, List.set_cons_zero, List.set_cons_succ]
                    refine wpAnyH_take (i := 34) (v := ?v34_86) rfl (by kernel_rfl) (by kernel_rfl) (by kernel_rfl) (fun _ _ _ h => h) (Or.inl ⟨by rfl, ?y34_86⟩) hHeld ?r34_86
                    case y34_86 => (intro w hSw; (try dsimp only at hSw); go_split_ands; go_simp; try with_reducible rfl)
                    try simp only [List.getElem_toArray, List.getElem_cons_succ, List.getElem_cons_zero, Act.put, List.setIfInBounds_toArray, List.set_cons_zero, List.set_cons_succ]
                    refine wpAnyH_done (by kernel_rfl) ?_ _
                    go_wp2_with fail
                    go_roundw
                    case rel => exact ⟨k + 1, by omega, by go_num, hbz2.out⟩
                    case measure => simp [intOf] <;> omega
                · obtain rfl : N = k := by omega
                  replace hbt2 := Lib.hid hbt2
                  have RT3 := RT2.out _ hbt2.out
                  replace RT3 := Lib.hid RT3
                  go_wp2_with fail
                  first | with_reducible refine (RT3.out).mono ?_ | refine (RT3.out).mono ?_
                  rintro e w13 ⟨vs, rfl, hSo, hb13⟩
                  have hSi := OwnB.ints hSo
                  have hRi2 : IntsAt w13 (.slice aR nr cR) R := by
                    exact hRi.out.below (((hw8.tr hb9).tr hbz).tr hb13)
                  have hml : R.length ≤ maxLen := by rw [hnr.out]; unfold maxLen; omega
                  have SM := same_any R R (.slice aR nr cR) vs w13 hRi2 hSi hml hml
                  rw [show decide (R = R) = true from decide_eq_true rfl] at SM
                  have hbh := hb5.out.tr (hbt2.out.tr hb13)
                  replace SM := Lib.hid SM
                  replace hbh := Lib.hid hbh
                  clear RT3 hSo hSi hRi2
                  go_wp2_with fail
                  first | with_reducible refine (SM.out).mono ?_ | refine (SM.out).mono ?_
                  rintro e w14 ⟨rfl, hb14⟩
                  go_wp2_with fail
                  first | with_reducible refine (LV.out _).mono ?_ | refine (LV.out _).mono ?_
                  rintro e w15 ⟨rfl, hb15⟩
                  have hbi := (hbh.out.tr hb14).tr hb15
                  go_wp2_with fail
                  go_ret
                  exact ⟨rfl, hbi⟩
      | true =>
        go_wp2_with fail
        first | with_reducible refine (RE.out).mono ?_ | refine (RE.out).mono ?_
        rintro e w6 ⟨rfl, rfl⟩
        go_wp2_with fail
        first | with_reducible refine (RE.out).mono ?_ | refine (RE.out).mono ?_
        rintro e w6 ⟨rfl, rfl⟩
        clear RE
        obtain ⟨y0, y1, y2, y3, y4⟩ := five hX.out
        go_wp2_with fail
        first | with_reducible refine (A2.out _).mono ?_ | refine (A2.out _).mono ?_
        rintro e w' ⟨rfl, rfl⟩
        obtain ⟨at_, hat⟩ : ∃ z_, (t + o2) = z_ := ⟨_, rfl⟩
        have RT := roots_any hC'.out (by omega) at_
        have hRm := fun v => mem_rootsTo U at_ v (U.length + 1)
        have hRl := rootsTo_len U at_ (U.length + 1)
        obtain ⟨R, hR⟩ : ∃ R, rootsTo U at_ (U.length + 1) = R := ⟨_, rfl⟩
        rw [hR] at RT hRl
        simp only [hR] at hRm
        have RT2 := fun w' (hb : Bl w6 w') => roots_any (hD.out.bl hb) (by omega) at_
        simp only [hR] at RT2
        have CE := fun w' (hb : Bl w6 w') => check_any (hC'.out.bl hb) (by omega) (by rw [hN.out]; omega) ⟨xs, xr, xv, xf, xt⟩ xv at_ hxo
        rw [chk_gone hgv.out hsi.out] at CE
        have hrt : trB U xr at_ = true ↔ xr ∈ R := by rw [hRm xr]; exact ⟨fun h => ⟨by omega, h⟩, fun h => h.2⟩
        have hTk := fun k hk => mem_take_succ_i R xr k hk
        have hTz : decide (xr ∈ R.take 0) = false := by simp
        have hTa : R.take R.length = R := List.take_length
        have hCh := fun w' (hb : Bl w6 w') i (hi : i < N) => check_any (hC'.out.bl hb) (by omega) (by rw [hN.out]; omega) (G.getD i c0) (G.getD i c0).v at_ (hok2.out _ (getD_mem G i c0 (by rw [hN.out]; exact hi))).1
        have hDh := fun w' (hb : Bl w6 w') i (hi : i < N) => check_any (hD.out.bl hb) (by omega) (by rw [hN.out]; omega) (G.getD i c0) (G.getD i c0).v at_ (hok2.out _ (getD_mem G i c0 (by rw [hN.out]; exact hi))).1
        have hEq := fun i (h : (G.getD i c0).s ≠ xs) => chk_same (U := U) (G := G) (S := S) (S' := SS) (c := G.getD i c0) (v := (G.getD i c0).v) (now := at_) (hsm.out _ h)
        obtain ⟨trx, htrx⟩ : ∃ b, trB U xr at_ = b := ⟨_, rfl⟩
        rw [htrx] at CE hrt
        replace RT := Lib.hid RT
        replace RT2 := Lib.hid RT2
        replace CE := Lib.hid CE
        replace hTk := Lib.hid hTk
        replace hTz := Lib.hid hTz
        replace hTa := Lib.hid hTa
        replace hCh := Lib.hid hCh
        replace hDh := Lib.hid hDh
        replace hEq := Lib.hid hEq
        replace hrt := Lib.hid hrt
        clear hRm htrx hR
        replace hat := Lib.hid hat
        have hat' := hat.out
        go_wp2_with fail
        first | with_reducible refine (RT.out).mono ?_ | refine (RT.out).mono ?_
        rintro e w8 ⟨vr, rfl, hRo, hb8⟩
        have hRi := OwnB.ints hRo
        obtain ⟨aR, gR, cR, rfl, -, -, -, hRR⟩ := hRo.row (by decide)
        have hX8 := blk_bl hX.out hb8
        obtain ⟨nr, hnr⟩ : ∃ n, R.length = n := ⟨_, rfl⟩
        rw [hnr] at hRl hRi ⊢
        have hTk := hTk.out; have hTa := hTa.out
        rw [hnr] at hTa
        simp only [hnr] at hTk
        replace hRi := Lib.hid hRi
        replace hRR := Lib.hid hRR
        replace hX8 := Lib.hid hX8
        replace hnr := Lib.hid hnr
        replace hTk := Lib.hid hTk
        replace hTa := Lib.hid hTa
        replace hb8 := Lib.hid hb8
        clear RT hRo
        go_wp2_with fail
        go_loopw [18, 20] (fun tv i wz => ∃ k : Nat, k ≤ nr ∧ i = I k ∧ tv = .bool (decide (xr ∈ R.take k)) ∧ Bl w8 wz) (fun _ i _ => nr - (intOf i).toNat)
        case atStart => exact ⟨0, by omega, rfl, by rw [hTz.out], Bl.rfl' _⟩
        case round =>
          obtain ⟨k, hk, rfl, rfl, hbz⟩ := hrel
          obtain ⟨y0, y1, y2, y3, y4⟩ := five (blk_bl hX8.out hbz)
          by_cases hlt : k < nr
          · have q0 := ((hRR.out.bl hbz).c0 iB_len 0 k (by rw [hnr.out]; exact hlt)).2 0 (by decide)
            obtain ⟨rfl, -⟩ := (hRR.out.bl hbz).c0 iB_len 0 k (by rw [hnr.out]; exact hlt)
            simp only [Nat.mul_one, Nat.add_zero, List.getElem?_cons_zero] at q0
            have ht1 := hTk.out k hlt
            obtain ⟨rv, hrv⟩ : ∃ z_, (R.getD k 0) = z_ := ⟨_, rfl⟩
            rw [hrv] at q0 ht1
            obtain ⟨eb, heb⟩ : ∃ b, (rv == xr) = b := ⟨_, rfl⟩
            rw [heb] at ht1
            obtain ⟨tb, htb⟩ : ∃ b, decide (xr ∈ R.take k) = b := ⟨_, rfl⟩
            rw [htb] at ht1 ⊢
            replace ht1 := Lib.hid ht1
            replace hbz := Lib.hid hbz
            clear hrv htb
            cases tb with
            | true =>
              go_wp2_with fail
              go_quiet (fail)
              go_wp2_with fail
              go_roundw
              case rel => exact ⟨k + 1, by omega, by go_num, by rw [ht1.out]; rfl, hbz.out.drn _⟩
              case measure => simp [intOf] <;> omega
            | false =>
              go_wp2_with fail
              go_quiet (fail)
              go_wp2_with fail
              go_roundw
              case rel => exact ⟨k + 1, by omega, by go_num, by rw [ht1.out]; rfl, hbz.out.drn _⟩
              case measure => simp [intOf] <;> omega
          · obtain rfl : nr = k := by omega
            rw [hTa.out]
            have hbt := hb8.out.tr hbz
            have CE1 := CE.out _ hbt
            have hw8 := hbz
            have hX9 := hX8.out
            have hrt' : decide (xr ∈ R) = trx := by
              cases trx with
              | true => exact decide_eq_true (hrt.out.1 rfl)
              | false => exact decide_eq_false (fun h => by have := hrt.out.2 h; cases this)
            rw [hrt']
            replace hbt := Lib.hid hbt
            replace CE1 := Lib.hid CE1
            clear hrt' hTa hTk
            cases trx with
            | true =>
              have CE1 := CE1.out
              simp only [if_true] at CE1
              replace CE1 := Lib.hid CE1
              go_wp2_with fail
              first | with_reducible refine (CE1.out).mono ?_ | refine (CE1.out).mono ?_
              rintro e w9 ⟨rfl, hb9⟩
              have hb9' := hbt.out.tr hb9
              have hX10 := blk_bl hX.out hb9'
              obtain ⟨y0, y1, y2, y3, y4⟩ := five hX10
              replace hb9' := Lib.hid hb9'
              clear CE1
              go_wp2_with fail
              clear y0 y1 y2 y3 y4
              go_loopw [22] (fun i wz => ∃ k : Nat, k ≤ N ∧ i = I k ∧ Bl w9 wz) (fun i _ => N - (intOf i).toNat)
              case atStart => exact ⟨0, by omega, rfl, Bl.rfl' _⟩
              case round =>
                obtain ⟨k, hk, rfl, hbz⟩ := hrel
                have hbt2 := hb9'.out.tr hbz
                by_cases hlt : k < N
                · have hbd := hbt2.dr
                  have hRGd := hRG.out.bl hbd
                  have hX11 := blk_bl hX.out hbd
                  have hcel := fun w' (hb : Bl w6 w') => ((hRG.out.bl hb).c0 cB_len c0 k (by rw [hN.out]; exact hlt)).2
                  have hye := fun w' (hb : Bl w6 w') => (five (blk_bl hX.out hb)).1
                  have hCk := fun w' hb => hCh.out w' hb k hlt
                  have hDk := fun w' hb => hDh.out w' hb k hlt
                  have hEk := hEq.out k
                  obtain ⟨z, hz⟩ : ∃ z, G.getD k c0 = z := ⟨_, rfl⟩
                  simp only [hz] at hcel hCk hDk hEk
                  obtain ⟨zs, zr, zv, zf, zt⟩ := z
                  have hS : ∀ w', Bl w6 w' → w'.cell? ⟨gG, k * 5, none⟩ = some (I zs) ∧ w'.cell? ⟨gG, k * 5 + 1, none⟩ = some (I zr) ∧ w'.cell? ⟨gG, k * 5 + 2, none⟩ = some (I zv) ∧ w'.cell? ⟨gG, k * 5 + 3, none⟩ = some (I zf) ∧ w'.cell? ⟨gG, k * 5 + 4, none⟩ = some (I zt) ∧ w'.cell? ⟨y, 0, none⟩ = some (I xs) := fun w' hb =>
                    ⟨hcel w' hb 0 (by decide), hcel w' hb 1 (by decide), hcel w' hb 2 (by decide), hcel w' hb 3 (by decide), hcel w' hb 4 (by decide), hye w' hb⟩
                  replace hbd := Lib.hid hbd
                  replace hS := Lib.hid hS
                  replace hCk := Lib.hid hCk
                  replace hDk := Lib.hid hDk
                  replace hEk := Lib.hid hEk
                  replace hbz := Lib.hid hbz
                  clear hRGd hX11 hcel hye hz hbt2
                  go_wp2_with fail
                  refine wp_region_held_drew (S := fun w' => w'.cell? ⟨gG, k * 5, none⟩ = some (I zs) ∧ w'.cell? ⟨gG, k * 5 + 1, none⟩ = some (I zr) ∧ w'.cell? ⟨gG, k * 5 + 2, none⟩ = some (I zv) ∧ w'.cell? ⟨gG, k * 5 + 3, none⟩ = some (I zf) ∧ w'.cell? ⟨gG, k * 5 + 4, none⟩ = some (I zt) ∧ w'.cell? ⟨y, 0, none⟩ = some (I xs)) (by kernel_rfl) ?_ (fun hHeld => ?_)
                  · exact hS.out _ hbd.out
                  by_cases hzx : zs = xs
                  · have zb : (zs != xs) = false := by rw [hzx]; simp
                    have zb2 : (zs == xs) = true := by rw [hzx]; simp
                    replace hzx := Lib.hid hzx
                    refine wpAnyH_take (i := 0) (v := ?v0_87) rfl (by kernel_rfl) (by kernel_rfl) (by kernel_rfl) (fun _ _ _ h => h) (Or.inl ⟨by rfl, ?y0_87⟩) hHeld ?r0_87
                    case y0_87 => (intro w hSw; (try dsimp only at hSw); go_split_ands; go_simp; try with_reducible rfl)
                    try simp only [List.getElem_toArray, List.getElem_cons_succ, List.getElem_cons_zero, Act.put, List.setIfInBounds_toArray, List.set_cons_zero, List.set_cons_succ]
                    refine wpAnyH_take (i := 1) (v := ?v1_88) rfl (by kernel_rfl) (by kernel_rfl) (by kernel_rfl) (fun _ _ _ h => h) (Or.inl ⟨by rfl, ?y1_88⟩) hHeld ?r1_88
                    case y1_88 => (intro w hSw; (try dsimp only at hSw); go_split_ands; go_simp; try with_reducible rfl)
                    try simp only [List.getElem_toArray, List.getElem_cons_succ, List.getElem_cons_zero, Act.put, List.setIfInBounds_toArray, List.set_cons_zero, List.set_cons_succ]
                    refine wpAnyH_take (i := 2) (v := ?v2_89) rfl (by kernel_rfl) (by kernel_rfl) (by kernel_rfl) (fun _ _ _ h => h) (Or.inl ⟨by rfl, ?y2_89⟩) hHeld ?r2_89
                    case y2_89 => (intro w hSw; (try dsimp only at hSw); go_split_ands; go_simp; try with_reducible rfl)
                    try simp only [List.getElem_toArray, List.getElem_cons_succ, List.getElem_cons_zero, Act.put, List.setIfInBounds_toArray, List.set_cons_zero, List.set_cons_succ]
                    refine wpAnyH_take (i := 3) (v := ?v3_90) rfl (by kernel_rfl) (by kernel_rfl) (by kernel_rfl) (fun _ _ _ h => h) (Or.inl ⟨by rfl, ?y3_90⟩) hHeld ?r3_90
                    case y3_90 => (intro w hSw; (try dsimp only at hSw); go_split_ands; go_simp; try with_reducible rfl)
                    try simp only [List.getElem_toArray, List.getElem_cons_succ, List.getElem_cons_zero, Act.put, List.setIfInBounds_toArray, List.set_cons_zero, List.set_cons_succ]
                    refine wpAnyH_take (i := 4) (v := ?v4_91) rfl (by kernel_rfl) (by kernel_rfl) (by kernel_rfl) (fun _ _ _ h => h) (Or.inl ⟨by rfl, ?y4_91⟩) hHeld ?r4_91
                    case y4_91 => (intro w hSw; (try dsimp only at hSw); go_split_ands; go_simp; try with_reducible rfl)
                    try simp only [List.getElem_toArray, List.getElem_cons_succ, List.getElem_cons_zero, Act.put, List.setIfInBounds_toArray, List.set_cons_zero, List.set_cons_succ]
                    refine wpAnyH_take (i := 5) (v := ?v5_92) rfl (by kernel_rfl) (by kernel_rfl) (by kernel_rfl) (fun _ _ _ h => h) (Or.inl ⟨by rfl, ?y5_92⟩) hHeld ?r5_92
                    case y5_92 => (intro w hSw; (try dsimp only at hSw); go_split_ands; go_simp; try with_reducible rfl)
                    try simp only [List.getElem_toArray, List.getElem_cons_succ, List.getElem_cons_zero, Act.put, List.setIfInBounds_toArray, List.set_cons_zero, List.set_cons_succ]
                    refine wpAnyH_take (i := 6) (v := ?v6_93) rfl (by kernel_rfl) (by kernel_rfl) (by kernel_rfl) (fun _ _ _ h => h) (Or.inl ⟨by rfl, ?y6_93⟩) hHeld ?r6_93
                    case y6_93 => (intro w hSw; (try dsimp only at hSw); go_split_ands; go_simp; try with_reducible rfl)
                    try simp only [List.getElem_toArray, List.getElem_cons_succ, List.getElem_cons_zero, Act.put, List.setIfInBounds_toArray, List.set_cons_zero, List.set_cons_succ]
                    refine wpAnyH_take (i := 7) (v := ?v7_94) rfl (by kernel_rfl) (by kernel_rfl) (by kernel_rfl) (fun _ _ _ h => h) (Or.inl ⟨by rfl, ?y7_94⟩) hHeld ?r7_94
                    case y7_94 => (intro w hSw; (try dsimp only at hSw); go_split_ands; go_simp; try with_reducible rfl)
                    try simp only [List.getElem_toArray, List.getElem_cons_succ, List.getElem_cons_zero, Act.put, List.setIfInBounds_toArray, List.set_cons_zero, List.set_cons_succ]
                    refine wpAnyH_take (i := 8) (v := ?v8_95) rfl (by kernel_rfl) (by kernel_rfl) (by kernel_rfl) (fun _ _ _ h => h) (Or.inl ⟨by rfl, ?y8_95⟩) hHeld ?r8_95
                    case y8_95 => (intro w hSw; (try dsimp only at hSw); go_split_ands; go_simp; try with_reducible rfl)
                    try simp only [List.getElem_toArray, List.getElem_cons_succ, List.getElem_cons_zero, Act.put, List.setIfInBounds_toArray, List.set_cons_zero, List.set_cons_succ]
                    refine wpAnyH_take (i := 9) (v := undef) rfl (by kernel_rfl) (by kernel_rfl) (by kernel_rfl) (fun _ _ _ h => h) (Or.inr ⟨by rfl, rfl⟩) hHeld ?_
                    try simp only [List.getElem_toArray, List.getElem_cons_succ, List.getElem_cons_zero, Act.put, List.setIfInBounds_toArray, List.set_cons_zero, List.set_cons_succ]
                    refine wpAnyH_take (i := 10) (v := undef) rfl (by kernel_rfl) (by kernel_rfl) (by kernel_rfl) (fun _ _ _ h => h) (Or.inr ⟨by rfl, rfl⟩) hHeld ?_
                    try simp only [List.getElem_toArray, List.getElem_cons_succ, List.getElem_cons_zero, Act.put, List.setIfInBounds_toArray, List.set_cons_zero, List.set_cons_succ]
                    refine wpAnyH_take (i := 11) (v := undef) rfl (by kernel_rfl) (by kernel_rfl) (by kernel_rfl) (fun _ _ _ h => h) (Or.inr ⟨by rfl, rfl⟩) hHeld ?_
                    try simp only [List.getElem_toArray, List.getElem_cons_succ, List.getElem_cons_zero, Act.put, List.setIfInBounds_toArray, List.set_cons_zero, List.set_cons_succ]
                    refine wpAnyH_take (i := 12) (v := undef) rfl (by kernel_rfl) (by kernel_rfl) (by kernel_rfl) (fun _ _ _ h => h) (Or.inr ⟨by rfl, rfl⟩) hHeld ?_
                    try simp only [List.getElem_toArray, List.getElem_cons_succ, List.getElem_cons_zero, Act.put, List.setIfInBounds_toArray, List.set_cons_zero, List.set_cons_succ]
                    refine wpAnyH_take (i := 13) (v := undef) rfl (by kernel_rfl) (by kernel_rfl) (by kernel_rfl) (fun _ _ _ h => h) (Or.inr ⟨by rfl, rfl⟩) hHeld ?_
                    try simp only [List.getElem_toArray, List.getElem_cons_succ, List.getElem_cons_zero, Act.put, List.setIfInBounds_toArray, List.set_cons_zero, List.set_cons_succ]
                    refine wpAnyH_take (i := 14) (v := undef) rfl (by kernel_rfl) (by kernel_rfl) (by kernel_rfl) (fun _ _ _ h => h) (Or.inr ⟨by rfl, rfl⟩) hHeld ?_
                    try simp only [List.getElem_toArray, List.getElem_cons_succ, List.getElem_cons_zero, Act.put, List.setIfInBounds_toArray, List.set_cons_zero, List.set_cons_succ]
                    refine wpAnyH_take (i := 15) (v := undef) rfl (by kernel_rfl) (by kernel_rfl) (by kernel_rfl) (fun _ _ _ h => h) (Or.inr ⟨by rfl, rfl⟩) hHeld ?_
                    try simp only [List.getElem_toArray, List.getElem_cons_succ, List.getElem_cons_zero, Act.put, List.setIfInBounds_toArray, List.set_cons_zero, List.set_cons_succ]
                    refine wpAnyH_take (i := 16) (v := undef) rfl (by kernel_rfl) (by kernel_rfl) (by kernel_rfl) (fun _ _ _ h => h) (Or.inr ⟨by rfl, rfl⟩) hHeld ?_
                    try simp only [List.getElem_toArray, List.getElem_cons_succ, List.getElem_cons_zero, Act.put, List.setIfInBounds_toArray, List.set_cons_zero, List.set_cons_succ]
                    refine wpAnyH_take (i := 17) (v := undef) rfl (by kernel_rfl) (by kernel_rfl) (by kernel_rfl) (fun _ _ _ h => h) (Or.inr ⟨by rfl, rfl⟩) hHeld ?_
                    try simp only [List.getElem_toArray, List.getElem_cons_succ, List.getElem_cons_zero, Act.put, List.setIfInBounds_toArray, List.set_cons_zero, List.set_cons_succ]
                    refine wpAnyH_take (i := 18) (v := undef) rfl (by kernel_rfl) (by kernel_rfl) (by kernel_rfl) (fun _ _ _ h => h) (Or.inr ⟨by rfl, rfl⟩) hHeld ?_
                    try simp only [List.getElem_toArray, List.getElem_cons_succ, List.getElem_cons_zero, Act.put, List.setIfInBounds_toArray, List.set_cons_zero, List.set_cons_succ]
                    refine wpAnyH_take (i := 19) (v := undef) rfl (by kernel_rfl) (by kernel_rfl) (by kernel_rfl) (fun _ _ _ h => h) (Or.inr ⟨by rfl, rfl⟩) hHeld ?_
                    try simp only [List.getElem_toArray, List.getElem_cons_succ, List.getElem_cons_zero, Act.put, List.setIfInBounds_toArray, List.set_cons_zero, List.set_cons_succ]
                    refine wpAnyH_take (i := 20) (v := undef) rfl (by kernel_rfl) (by kernel_rfl) (by kernel_rfl) (fun _ _ _ h => h) (Or.inr ⟨by rfl, rfl⟩) hHeld ?_
                    try simp only [List.getElem_toArray, List.getElem_cons_succ, List.getElem_cons_zero, Act.put, List.setIfInBounds_toArray, List.set_cons_zero, List.set_cons_succ]
                    refine wpAnyH_take (i := 21) (v := undef) rfl (by kernel_rfl) (by kernel_rfl) (by kernel_rfl) (fun _ _ _ h => h) (Or.inr ⟨by rfl, rfl⟩) hHeld ?_
                    try simp only [List.getElem_toArray, List.getElem_cons_succ, List.getElem_cons_zero, Act.put, List.setIfInBounds_toArray, List.set_cons_zero, List.set_cons_succ]
                    refine wpAnyH_take (i := 22) (v := undef) rfl (by kernel_rfl) (by kernel_rfl) (by kernel_rfl) (fun _ _ _ h => h) (Or.inr ⟨by rfl, rfl⟩) hHeld ?_
                    try simp only [List.getElem_toArray, List.getElem_cons_succ, List.getElem_cons_zero, Act.put, List.setIfInBounds_toArray, List.set_cons_zero, List.set_cons_succ]
                    refine wpAnyH_take (i := 23) (v := undef) rfl (by kernel_rfl) (by kernel_rfl) (by kernel_rfl) (fun _ _ _ h => h) (Or.inr ⟨by rfl, rfl⟩) hHeld ?_
                    try simp only [List.getElem_toArray, List.getElem_cons_succ, List.getElem_cons_zero, Act.put, List.setIfInBounds_toArray, List.set_cons_zero, List.set_cons_succ]
                    refine wpAnyH_take (i := 24) (v := undef) rfl (by kernel_rfl) (by kernel_rfl) (by kernel_rfl) (fun _ _ _ h => h) (Or.inr ⟨by rfl, rfl⟩) hHeld ?_
                    try simp only [List.getElem_toArray, List.getElem_cons_succ, List.getElem_cons_zero, Act.put, List.setIfInBounds_toArray, List.set_cons_zero, List.set_cons_succ]
                    refine wpAnyH_take (i := 25) (v := undef) rfl (by kernel_rfl) (by kernel_rfl) (by kernel_rfl) (fun _ _ _ h => h) (Or.inr ⟨by rfl, rfl⟩) hHeld ?_
                    try simp only [List.getElem_toArray, List.getElem_cons_succ, List.getElem_cons_zero, Act.put, List.setIfInBounds_toArray, List.set_cons_zero, List.set_cons_succ]
                    refine wpAnyH_take (i := 26) (v := undef) rfl (by kernel_rfl) (by kernel_rfl) (by kernel_rfl) (fun _ _ _ h => h) (Or.inr ⟨by rfl, rfl⟩) hHeld ?_
                    try simp only [List.getElem_toArray, List.getElem_cons_succ, List.getElem_cons_zero, Act.put, List.setIfInBounds_toArray, List.set_cons_zero, List.set_cons_succ]
                    refine wpAnyH_take (i := 27) (v := undef) rfl (by kernel_rfl) (by kernel_rfl) (by kernel_rfl) (fun _ _ _ h => h) (Or.inr ⟨by rfl, rfl⟩) hHeld ?_
                    try simp only [List.getElem_toArray, List.getElem_cons_succ, List.getElem_cons_zero, Act.put, List.setIfInBounds_toArray, List.set_cons_zero, List.set_cons_succ]
                    refine wpAnyH_take (i := 28) (v := undef) rfl (by kernel_rfl) (by kernel_rfl) (by kernel_rfl) (fun _ _ _ h => h) (Or.inr ⟨by rfl, rfl⟩) hHeld ?_
                    try simp only [List.getElem_toArray, List.getElem_cons_succ, List.getElem_cons_zero, Act.put, List.setIfInBounds_toArray, List.set_cons_zero, List.set_cons_succ]
                    refine wpAnyH_take (i := 29) (v := undef) rfl (by kernel_rfl) (by kernel_rfl) (by kernel_rfl) (fun _ _ _ h => h) (Or.inr ⟨by rfl, rfl⟩) hHeld ?_
                    try simp only [List.getElem_toArray, List.getElem_cons_succ, List.getElem_cons_zero, Act.put, List.setIfInBounds_toArray, List.set_cons_zero, List.set_cons_succ]
                    refine wpAnyH_take (i := 30) (v := undef) rfl (by kernel_rfl) (by kernel_rfl) (by kernel_rfl) (fun _ _ _ h => h) (Or.inr ⟨by rfl, rfl⟩) hHeld ?_
                    try simp only [List.getElem_toArray, List.getElem_cons_succ, List.getElem_cons_zero, Act.put, List.setIfInBounds_toArray, List.set_cons_zero, List.set_cons_succ]
                    refine wpAnyH_take (i := 31) (v := undef) rfl (by kernel_rfl) (by kernel_rfl) (by kernel_rfl) (fun _ _ _ h => h) (Or.inr ⟨by rfl, rfl⟩) hHeld ?_
                    try simp only [List.getElem_toArray, List.getElem_cons_succ, List.getElem_cons_zero, Act.put, List.setIfInBounds_toArray, List.set_cons_zero, List.set_cons_succ]
                    refine wpAnyH_take (i := 32) (v := undef) rfl (by kernel_rfl) (by kernel_rfl) (by kernel_rfl) (fun _ _ _ h => h) (Or.inr ⟨by rfl, rfl⟩) hHeld ?_
                    try simp only [List.getElem_toArray, List.getElem_cons_succ, List.getElem_cons_zero, Act.put, List.setIfInBounds_toArray, List.set_cons_zero, List.set_cons_succ]
                    refine wpAnyH_take (i := 33) (v := undef) rfl (by kernel_rfl) (by kernel_rfl) (by kernel_rfl) (fun _ _ _ h => h) (Or.inr ⟨by rfl, rfl⟩) hHeld ?_
                    try simp only [List.getElem_toArray, List.getElem_cons_succ, List.getElem_cons_zero, Act.put, List.setIfInBounds_toArray, List.set_cons_zero, List.set_cons_succ]
                    refine wpAnyH_take (i := 34) (v := ?v34_96) rfl (by kernel_rfl) (by kernel_rfl) (by kernel_rfl) (fun _ _ _ h => h) (Or.inl ⟨by rfl, ?y34_96⟩) hHeld ?r34_96
                    case y34_96 => (intro w hSw; (try dsimp only at hSw); go_split_ands; go_simp; try with_reducible rfl)
                    try simp only [List.getElem_toArray, List.getElem_cons_succ, List.getElem_cons_zero, Act.put, List.setIfInBounds_toArray, List.set_cons_zero, List.set_cons_succ]
                    refine wpAnyH_done (by kernel_rfl) ?_ _
                    go_wp2_with fail
                    go_roundw
                    case rel => exact ⟨k + 1, by omega, by go_num, hbz.out.dr⟩
                    case measure => simp [intOf] <;> omega
                  · have zb : (zs != xs) = true := by simp [hzx]
                    have zb2 : (zs == xs) = false := beq_eq_false_iff_ne.2 hzx
                    have hEe := hEk.out hzx
                    try simp only at hEe
                    have hCk := hCk.out
                    simp only [hEe] at hCk
                    obtain ⟨ee, hee⟩ : ∃ e, chkE U G S ⟨zs, zr, zv, zf, zt⟩ zv at_ = e := ⟨_, rfl⟩
                    have hDk := hDk.out
                    simp only [hee] at hCk hDk
                    replace hzx := Lib.hid hzx
                    replace hCk := Lib.hid hCk
                    replace hDk := Lib.hid hDk
                    clear hEe hee
                    refine wpAnyH_take (i := 0) (v := ?v0_97) rfl (by kernel_rfl) (by kernel_rfl) (by kernel_rfl) (fun _ _ _ h => h) (Or.inl ⟨by rfl, ?y0_97⟩) hHeld ?r0_97
                    case y0_97 => (intro w hSw; (try dsimp only at hSw); go_split_ands; go_simp; try with_reducible rfl)
                    try simp only [List.getElem_toArray, List.getElem_cons_succ, List.getElem_cons_zero, Act.put, List.setIfInBounds_toArray, List.set_cons_zero, List.set_cons_succ]
                    refine wpAnyH_take (i := 1) (v := ?v1_98) rfl (by kernel_rfl) (by kernel_rfl) (by kernel_rfl) (fun _ _ _ h => h) (Or.inl ⟨by rfl, ?y1_98⟩) hHeld ?r1_98
                    case y1_98 => (intro w hSw; (try dsimp only at hSw); go_split_ands; go_simp; try with_reducible rfl)
                    try simp only [List.getElem_toArray, List.getElem_cons_succ, List.getElem_cons_zero, Act.put, List.setIfInBounds_toArray, List.set_cons_zero, List.set_cons_succ]
                    refine wpAnyH_take (i := 2) (v := ?v2_99) rfl (by kernel_rfl) (by kernel_rfl) (by kernel_rfl) (fun _ _ _ h => h) (Or.inl ⟨by rfl, ?y2_99⟩) hHeld ?r2_99
                    case y2_99 => (intro w hSw; (try dsimp only at hSw); go_split_ands; go_simp; try with_reducible rfl)
                    try simp only [List.getElem_toArray, List.getElem_cons_succ, List.getElem_cons_zero, Act.put, List.setIfInBounds_toArray, List.set_cons_zero, List.set_cons_succ]
                    refine wpAnyH_take (i := 3) (v := ?v3_100) rfl (by kernel_rfl) (by kernel_rfl) (by kernel_rfl) (fun _ _ _ h => h) (Or.inl ⟨by rfl, ?y3_100⟩) hHeld ?r3_100
                    case y3_100 => (intro w hSw; (try dsimp only at hSw); go_split_ands; go_simp; try with_reducible rfl)
                    try simp only [List.getElem_toArray, List.getElem_cons_succ, List.getElem_cons_zero, Act.put, List.setIfInBounds_toArray, List.set_cons_zero, List.set_cons_succ]
                    refine wpAnyH_take (i := 4) (v := ?v4_101) rfl (by kernel_rfl) (by kernel_rfl) (by kernel_rfl) (fun _ _ _ h => h) (Or.inl ⟨by rfl, ?y4_101⟩) hHeld ?r4_101
                    case y4_101 => (intro w hSw; (try dsimp only at hSw); go_split_ands; go_simp; try with_reducible rfl)
                    try simp only [List.getElem_toArray, List.getElem_cons_succ, List.getElem_cons_zero, Act.put, List.setIfInBounds_toArray, List.set_cons_zero, List.set_cons_succ]
                    refine wpAnyH_take (i := 5) (v := ?v5_102) rfl (by kernel_rfl) (by kernel_rfl) (by kernel_rfl) (fun _ _ _ h => h) (Or.inl ⟨by rfl, ?y5_102⟩) hHeld ?r5_102
                    case y5_102 => (intro w hSw; (try dsimp only at hSw); go_split_ands; go_simp; try with_reducible rfl)
                    try simp only [List.getElem_toArray, List.getElem_cons_succ, List.getElem_cons_zero, Act.put, List.setIfInBounds_toArray, List.set_cons_zero, List.set_cons_succ]
                    refine wpAnyH_take (i := 6) (v := ?v6_103) rfl (by kernel_rfl) (by kernel_rfl) (by kernel_rfl) (fun _ _ _ h => h) (Or.inl ⟨by rfl, ?y6_103⟩) hHeld ?r6_103
                    case y6_103 => (intro w hSw; (try dsimp only at hSw); go_split_ands; go_simp; try with_reducible rfl)
                    try simp only [List.getElem_toArray, List.getElem_cons_succ, List.getElem_cons_zero, Act.put, List.setIfInBounds_toArray, List.set_cons_zero, List.set_cons_succ]
                    refine wpAnyH_take (i := 7) (v := ?v7_104) rfl (by kernel_rfl) (by kernel_rfl) (by kernel_rfl) (fun _ _ _ h => h) (Or.inl ⟨by rfl, ?y7_104⟩) hHeld ?r7_104
                    case y7_104 => (intro w hSw; (try dsimp only at hSw); go_split_ands; go_simp; try with_reducible rfl)
                    try simp only [List.getElem_toArray, List.getElem_cons_succ, List.getElem_cons_zero, Act.put, List.setIfInBounds_toArray, List.set_cons_zero, List.set_cons_succ]
                    refine wpAnyH_take (i := 8) (v := ?v8_105) rfl (by kernel_rfl) (by kernel_rfl) (by kernel_rfl) (fun _ _ _ h => h) (Or.inl ⟨by rfl, ?y8_105⟩) hHeld ?r8_105
                    case y8_105 => (intro w hSw; (try dsimp only at hSw); go_split_ands; go_simp; try with_reducible rfl)
                    try simp only [List.getElem_toArray, List.getElem_cons_succ, List.getElem_cons_zero, Act.put, List.setIfInBounds_toArray, List.set_cons_zero, List.set_cons_succ]
                    refine wpAnyH_take (i := 9) (v := ?v9_106) rfl (by kernel_rfl) (by kernel_rfl) (by kernel_rfl) (fun _ _ _ h => h) (Or.inl ⟨by rfl, ?y9_106⟩) hHeld ?r9_106
                    case y9_106 => (intro w hSw; (try dsimp only at hSw); go_split_ands; go_simp; try with_reducible rfl)
                    try simp only [List.getElem_toArray, List.getElem_cons_succ, List.getElem_cons_zero, Act.put, List.setIfInBounds_toArray, List.set_cons_zero, List.set_cons_succ]
                    refine wpAnyH_take (i := 10) (v := ?v10_107) rfl (by kernel_rfl) (by kernel_rfl) (by kernel_rfl) (fun _ _ _ h => h) (Or.inl ⟨by rfl, ?y10_107⟩) hHeld ?r10_107
                    case y10_107 => (intro w hSw; (try dsimp only at hSw); go_split_ands; go_simp; try with_reducible rfl)
                    try simp only [List.getElem_toArray, List.getElem_cons_succ, List.getElem_cons_zero, Act.put, List.setIfInBounds_toArray, List.set_cons_zero, List.set_cons_succ]
                    refine wpAnyH_take (i := 11) (v := ?v11_108) rfl (by kernel_rfl) (by kernel_rfl) (by kernel_rfl) (fun _ _ _ h => h) (Or.inl ⟨by rfl, ?y11_108⟩) hHeld ?r11_108
                    case y11_108 => (intro w hSw; (try dsimp only at hSw); go_split_ands; go_simp; try with_reducible rfl)
                    try simp only [List.getElem_toArray, List.getElem_cons_succ, List.getElem_cons_zero, Act.put, List.setIfInBounds_toArray, List.set_cons_zero, List.set_cons_succ]
                    refine wpAnyH_take (i := 12) (v := ?v12_109) rfl (by kernel_rfl) (by kernel_rfl) (by kernel_rfl) (fun _ _ _ h => h) (Or.inl ⟨by rfl, ?y12_109⟩) hHeld ?r12_109
                    case y12_109 => (intro w hSw; (try dsimp only at hSw); go_split_ands; go_simp; try with_reducible rfl)
                    try simp only [List.getElem_toArray, List.getElem_cons_succ, List.getElem_cons_zero, Act.put, List.setIfInBounds_toArray, List.set_cons_zero, List.set_cons_succ]
                    refine wpAnyH_take (i := 13) (v := ?v13_110) rfl (by kernel_rfl) (by kernel_rfl) (by kernel_rfl) (fun _ _ _ h => h) (Or.inl ⟨by rfl, ?y13_110⟩) hHeld ?r13_110
                    case y13_110 => (intro w hSw; (try dsimp only at hSw); go_split_ands; go_simp; try with_reducible rfl)
                    try simp only [List.getElem_toArray, List.getElem_cons_succ, List.getElem_cons_zero, Act.put, List.setIfInBounds_toArray, List.set_cons_zero, List.set_cons_succ]
                    refine wpAnyH_take (i := 14) (v := ?v14_111) rfl (by kernel_rfl) (by kernel_rfl) (by kernel_rfl) (fun _ _ _ h => h) (Or.inl ⟨by rfl, ?y14_111⟩) hHeld ?r14_111
                    case y14_111 => (intro w hSw; (try dsimp only at hSw); go_split_ands; go_simp; try with_reducible rfl)
                    try simp only [List.getElem_toArray, List.getElem_cons_succ, List.getElem_cons_zero, Act.put, List.setIfInBounds_toArray, List.set_cons_zero, List.set_cons_succ]
                    refine wpAnyH_take (i := 15) (v := ?v15_112) rfl (by kernel_rfl) (by kernel_rfl) (by kernel_rfl) (fun _ _ _ h => h) (Or.inl ⟨by rfl, ?y15_112⟩) hHeld ?r15_112
                    case y15_112 => (intro w hSw; (try dsimp only at hSw); go_split_ands; go_simp; try with_reducible rfl)
                    try simp only [List.getElem_toArray, List.getElem_cons_succ, List.getElem_cons_zero, Act.put, List.setIfInBounds_toArray, List.set_cons_zero, List.set_cons_succ]
                    refine wpAnyH_take (i := 16) (v := ?v16_113) rfl (by kernel_rfl) (by kernel_rfl) (by kernel_rfl) (fun _ _ _ h => h) (Or.inl ⟨by rfl, ?y16_113⟩) hHeld ?r16_113
                    case y16_113 => (intro w hSw; (try dsimp only at hSw); go_split_ands; go_simp; try with_reducible rfl)
                    try simp only [List.getElem_toArray, List.getElem_cons_succ, List.getElem_cons_zero, Act.put, List.setIfInBounds_toArray, List.set_cons_zero, List.set_cons_succ]
                    refine wpAnyH_take (i := 17) (v := ?v17_114) rfl (by kernel_rfl) (by kernel_rfl) (by kernel_rfl) (fun _ _ _ h => h) (Or.inl ⟨by rfl, ?y17_114⟩) hHeld ?r17_114
                    case y17_114 => (intro w hSw; (try dsimp only at hSw); go_split_ands; go_simp; try with_reducible rfl)
                    try simp only [List.getElem_toArray, List.getElem_cons_succ, List.getElem_cons_zero, Act.put, List.setIfInBounds_toArray, List.set_cons_zero, List.set_cons_succ]
                    refine wpAnyH_take (i := 18) (v := ?v18_115) rfl (by kernel_rfl) (by kernel_rfl) (by kernel_rfl) (fun _ _ _ h => h) (Or.inl ⟨by rfl, ?y18_115⟩) hHeld ?r18_115
                    case y18_115 => (intro w hSw; (try dsimp only at hSw); go_split_ands; go_simp; try with_reducible rfl)
                    try simp only [List.getElem_toArray, List.getElem_cons_succ, List.getElem_cons_zero, Act.put, List.setIfInBounds_toArray, List.set_cons_zero, List.set_cons_succ]
                    refine wpAnyH_take (i := 19) (v := ?v19_116) rfl (by kernel_rfl) (by kernel_rfl) (by kernel_rfl) (fun _ _ _ h => h) (Or.inl ⟨by rfl, ?y19_116⟩) hHeld ?r19_116
                    case y19_116 => (intro w hSw; (try dsimp only at hSw); go_split_ands; go_simp; try with_reducible rfl)
                    try simp only [List.getElem_toArray, List.getElem_cons_succ, List.getElem_cons_zero, Act.put, List.setIfInBounds_toArray, List.set_cons_zero, List.set_cons_succ]
                    refine wpAnyH_take (i := 21) (v := ?v21_117) rfl (by kernel_rfl) (by kernel_rfl) (by kernel_rfl) (fun _ _ _ h => h) (Or.inl ⟨by rfl, ?y21_117⟩) hHeld ?r21_117
                    case y21_117 => (intro w hSw; (try dsimp only at hSw); go_split_ands; go_simp; try with_reducible rfl)
                    try simp only [List.getElem_toArray, List.getElem_cons_succ, List.getElem_cons_zero, Act.put, List.setIfInBounds_toArray, List.set_cons_zero, List.set_cons_succ]
                    refine wpAnyH_take (i := 22) (v := ?v22_118) rfl (by kernel_rfl) (by kernel_rfl) (by kernel_rfl) (fun _ _ _ h => h) (Or.inl ⟨by rfl, ?y22_118⟩) hHeld ?r22_118
                    case y22_118 => (intro w hSw; (try dsimp only at hSw); go_split_ands; go_simp; try with_reducible rfl)
                    try simp only [List.getElem_toArray, List.getElem_cons_succ, List.getElem_cons_zero, Act.put, List.setIfInBounds_toArray, List.set_cons_zero, List.set_cons_succ]
                    refine wpAnyH_take (i := 23) (v := ?v23_119) rfl (by kernel_rfl) (by kernel_rfl) (by kernel_rfl) (fun _ _ _ h => h) (Or.inl ⟨by rfl, ?y23_119⟩) hHeld ?r23_119
                    case y23_119 => (intro w hSw; (try dsimp only at hSw); go_split_ands; go_simp; try with_reducible rfl)
                    try simp only [List.getElem_toArray, List.getElem_cons_succ, List.getElem_cons_zero, Act.put, List.setIfInBounds_toArray, List.set_cons_zero, List.set_cons_succ]
                    refine wpAnyH_take (i := 24) (v := ?v24_120) rfl (by kernel_rfl) (by kernel_rfl) (by kernel_rfl) (fun _ _ _ h => h) (Or.inl ⟨by rfl, ?y24_120⟩) hHeld ?r24_120
                    case y24_120 => (intro w hSw; (try dsimp only at hSw); go_split_ands; go_simp; try with_reducible rfl)
                    try simp only [List.getElem_toArray, List.getElem_cons_succ, List.getElem_cons_zero, Act.put, List.setIfInBounds_toArray, List.set_cons_zero, List.set_cons_succ]
                    refine wpAnyH_take (i := 25) (v := ?v25_121) rfl (by kernel_rfl) (by kernel_rfl) (by kernel_rfl) (fun _ _ _ h => h) (Or.inl ⟨by rfl, ?y25_121⟩) hHeld ?r25_121
                    case y25_121 => (intro w hSw; (try dsimp only at hSw); go_split_ands; go_simp; try with_reducible rfl)
                    try simp only [List.getElem_toArray, List.getElem_cons_succ, List.getElem_cons_zero, Act.put, List.setIfInBounds_toArray, List.set_cons_zero, List.set_cons_succ]
                    refine wpAnyH_take (i := 26) (v := ?v26_122) rfl (by kernel_rfl) (by kernel_rfl) (by kernel_rfl) (fun _ _ _ h => h) (Or.inl ⟨by rfl, ?y26_122⟩) hHeld ?r26_122
                    case y26_122 => (intro w hSw; (try dsimp only at hSw); go_split_ands; go_simp; try with_reducible rfl)
                    try simp only [List.getElem_toArray, List.getElem_cons_succ, List.getElem_cons_zero, Act.put, List.setIfInBounds_toArray, List.set_cons_zero, List.set_cons_succ]
                    refine wpAnyH_take (i := 27) (v := ?v27_123) rfl (by kernel_rfl) (by kernel_rfl) (by kernel_rfl) (fun _ _ _ h => h) (Or.inl ⟨by rfl, ?y27_123⟩) hHeld ?r27_123
                    case y27_123 => (intro w hSw; (try dsimp only at hSw); go_split_ands; go_simp; try with_reducible rfl)
                    try simp only [List.getElem_toArray, List.getElem_cons_succ, List.getElem_cons_zero, Act.put, List.setIfInBounds_toArray, List.set_cons_zero, List.set_cons_succ]
                    refine wpAnyH_take (i := 28) (v := ?v28_124) rfl (by kernel_rfl) (by kernel_rfl) (by kernel_rfl) (fun _ _ _ h => h) (Or.inl ⟨by rfl, ?y28_124⟩) hHeld ?r28_124
                    case y28_124 => (intro w hSw; (try dsimp only at hSw); go_split_ands; go_simp; try with_reducible rfl)
                    try simp only [List.getElem_toArray, List.getElem_cons_succ, List.getElem_cons_zero, Act.put, List.setIfInBounds_toArray, List.set_cons_zero, List.set_cons_succ]
                    refine wpAnyH_take (i := 29) (v := ?v29_125) rfl (by kernel_rfl) (by kernel_rfl) (by kernel_rfl) (fun _ _ _ h => h) (Or.inl ⟨by rfl, ?y29_125⟩) hHeld ?r29_125
                    case y29_125 => (intro w hSw; (try dsimp only at hSw); go_split_ands; go_simp; try with_reducible rfl)
                    try simp only [List.getElem_toArray, List.getElem_cons_succ, List.getElem_cons_zero, Act.put, List.setIfInBounds_toArray, List.set_cons_zero, List.set_cons_succ]
                    refine wpAnyH_take (i := 30) (v := ?v30_126) rfl (by kernel_rfl) (by kernel_rfl) (by kernel_rfl) (fun _ _ _ h => h) (Or.inl ⟨by rfl, ?y30_126⟩) hHeld ?r30_126
                    case y30_126 => (intro w hSw; (try dsimp only at hSw); go_split_ands; go_simp; try with_reducible rfl)
                    try simp only [List.getElem_toArray, List.getElem_cons_succ, List.getElem_cons_zero, Act.put, List.setIfInBounds_toArray, List.set_cons_zero, List.set_cons_succ]
                    refine wpAnyH_take (i := 31) (v := ?v31_127) rfl (by kernel_rfl) (by kernel_rfl) (by kernel_rfl) (fun _ _ _ h => h) (Or.inl ⟨by rfl, ?y31_127⟩) hHeld ?r31_127
                    case y31_127 => (intro w hSw; (try dsimp only at hSw); go_split_ands; go_simp; try with_reducible rfl)
                    try simp only [List.getElem_toArray, List.getElem_cons_succ, List.getElem_cons_zero, Act.put, List.setIfInBounds_toArray, List.set_cons_zero, List.set_cons_succ]
                    refine wpAnyH_ready (rs := [20]) (by kernel_rfl) (by simp) ?_
                    refine AllReadyH.cons rfl (fun K hK => ?_) AllReadyH.nil
                    have hHeld' := hHeld
                    try dsimp only at hHeld'
                    go_split_ands
                    go_simp
                    first | with_reducible refine (hCk.out _ hbd.out).mono ?_ | refine (hCk.out _ hbd.out).mono ?_
                    rintro e w11 ⟨rfl, hb11⟩
                    have hbe := Lib.hid (hbd.out.tr hb11)
                    refine hK.out _ _ ?_ (fun hHeld => ?_)
                    · exact hS.out _ hbe.out
                    clear hK K
                    try simp only [List.getElem_toArray, List.getElem_cons_succ, List.getElem_cons_zero, Act.put, List.setIfInBounds_toArray, List.set_cons_zero, List.set_cons_succ]
                    refine wpAnyH_ready (rs := [32]) (by kernel_rfl) (by simp) ?_
                    refine AllReadyH.cons rfl (fun K hK => ?_) AllReadyH.nil
                    have hHeld' := hHeld
                    try dsimp only at hHeld'
                    go_split_ands
                    go_simp
                    first | with_reducible refine (hDk.out _ hbe.out).mono ?_ | refine (hDk.out _ hbe.out).mono ?_
                    rintro e w12 ⟨rfl, hb12⟩
                    have hbf := Lib.hid (hbe.out.tr hb12)
                    have hbz2 := Lib.hid ((hbz.out.dr.tr hb11).tr hb12)
                    refine hK.out _ _ ?_ (fun hHeld => ?_)
                    · exact hS.out _ hbf.out
                    clear hK K
                    try simp only [List.getElem_toArray, List.getElem_cons_succ, List.getElem_cons_zero, Act.put, List.setIfInBounds_toArray, List.set_cons_zero, List.set_cons_succ]
                    refine wpAnyH_take (i := 33) (v := ?v33_128) rfl (by kernel_rfl) (by kernel_rfl) (by kernel_rfl) (fun _ _ _ h => h) (Or.inl ⟨by rfl, ?y33_128⟩) hHeld ?r33_128
                    case y33_128 => (intro w hSw; (try dsimp only at hSw); go_split_ands; go_simp; try with_reducible rfl)
                    try simp only [List.getElem_toArray, List.getElem_cons_succ, List.getElem_cons_zero, Act.put, List.setIfInBounds_toArray, List.set_cons_zero, List.set_cons_succ]
                    refine wpAnyH_take (i := 34) (v := ?v34_129) rfl (by kernel_rfl) (by kernel_rfl) (by kernel_rfl) (fun _ _ _ h => h) (Or.inl ⟨by rfl, ?y34_129⟩) hHeld ?r34_129
                    case y34_129 => (intro w hSw; (try dsimp only at hSw); go_split_ands; go_simp; try with_reducible rfl)
                    try simp only [List.getElem_toArray, List.getElem_cons_succ, List.getElem_cons_zero, Act.put, List.setIfInBounds_toArray, List.set_cons_zero, List.set_cons_succ]
                    refine wpAnyH_done (by kernel_rfl) ?_ _
                    go_wp2_with fail
                    go_roundw
                    case rel => exact ⟨k + 1, by omega, by go_num, hbz2.out⟩
                    case measure => simp [intOf] <;> omega
                · obtain rfl : N = k := by omega
                  replace hbt2 := Lib.hid hbt2
                  have RT3 := RT2.out _ hbt2.out
                  replace RT3 := Lib.hid RT3
                  go_wp2_with fail
                  first | with_reducible refine (RT3.out).mono ?_ | refine (RT3.out).mono ?_
                  rintro e w13 ⟨vs, rfl, hSo, hb13⟩
                  have hSi := OwnB.ints hSo
                  have hRi2 : IntsAt w13 (.slice aR nr cR) R := by
                    exact hRi.out.below (((hw8.tr hb9).tr hbz).tr hb13)
                  have hml : R.length ≤ maxLen := by rw [hnr.out]; unfold maxLen; omega
                  have SM := same_any R R (.slice aR nr cR) vs w13 hRi2 hSi hml hml
                  rw [show decide (R = R) = true from decide_eq_true rfl] at SM
                  have hbh := hb5.out.tr (hbt2.out.tr hb13)
                  replace SM := Lib.hid SM
                  replace hbh := Lib.hid hbh
                  clear RT3 hSo hSi hRi2
                  go_wp2_with fail
                  first | with_reducible refine (SM.out).mono ?_ | refine (SM.out).mono ?_
                  rintro e w14 ⟨rfl, hb14⟩
                  go_wp2_with fail
                  first | with_reducible refine (LV.out _).mono ?_ | refine (LV.out _).mono ?_
                  rintro e w15 ⟨rfl, hb15⟩
                  have hbi := (hbh.out.tr hb14).tr hb15
                  go_wp2_with fail
                  go_ret
                  exact ⟨rfl, hbi⟩
            | false =>
              have CE1 := CE1.out
              simp only [Bool.false_eq_true, if_false] at CE1
              replace CE1 := Lib.hid CE1
              go_wp2_with fail
              first | with_reducible refine (CE1.out).mono ?_ | refine (CE1.out).mono ?_
              rintro e w9 ⟨rfl, hb9⟩
              have hb9' := hbt.out.tr hb9
              have hX10 := blk_bl hX.out hb9'
              obtain ⟨y0, y1, y2, y3, y4⟩ := five hX10
              replace hb9' := Lib.hid hb9'
              clear CE1
              go_wp2_with fail
              clear y0 y1 y2 y3 y4
              go_loopw [22] (fun i wz => ∃ k : Nat, k ≤ N ∧ i = I k ∧ Bl w9 wz) (fun i _ => N - (intOf i).toNat)
              case atStart => exact ⟨0, by omega, rfl, Bl.rfl' _⟩
              case round =>
                obtain ⟨k, hk, rfl, hbz⟩ := hrel
                have hbt2 := hb9'.out.tr hbz
                by_cases hlt : k < N
                · have hbd := hbt2.dr
                  have hRGd := hRG.out.bl hbd
                  have hX11 := blk_bl hX.out hbd
                  have hcel := fun w' (hb : Bl w6 w') => ((hRG.out.bl hb).c0 cB_len c0 k (by rw [hN.out]; exact hlt)).2
                  have hye := fun w' (hb : Bl w6 w') => (five (blk_bl hX.out hb)).1
                  have hCk := fun w' hb => hCh.out w' hb k hlt
                  have hDk := fun w' hb => hDh.out w' hb k hlt
                  have hEk := hEq.out k
                  obtain ⟨z, hz⟩ : ∃ z, G.getD k c0 = z := ⟨_, rfl⟩
                  simp only [hz] at hcel hCk hDk hEk
                  obtain ⟨zs, zr, zv, zf, zt⟩ := z
                  have hS : ∀ w', Bl w6 w' → w'.cell? ⟨gG, k * 5, none⟩ = some (I zs) ∧ w'.cell? ⟨gG, k * 5 + 1, none⟩ = some (I zr) ∧ w'.cell? ⟨gG, k * 5 + 2, none⟩ = some (I zv) ∧ w'.cell? ⟨gG, k * 5 + 3, none⟩ = some (I zf) ∧ w'.cell? ⟨gG, k * 5 + 4, none⟩ = some (I zt) ∧ w'.cell? ⟨y, 0, none⟩ = some (I xs) := fun w' hb =>
                    ⟨hcel w' hb 0 (by decide), hcel w' hb 1 (by decide), hcel w' hb 2 (by decide), hcel w' hb 3 (by decide), hcel w' hb 4 (by decide), hye w' hb⟩
                  replace hbd := Lib.hid hbd
                  replace hS := Lib.hid hS
                  replace hCk := Lib.hid hCk
                  replace hDk := Lib.hid hDk
                  replace hEk := Lib.hid hEk
                  replace hbz := Lib.hid hbz
                  clear hRGd hX11 hcel hye hz hbt2
                  go_wp2_with fail
                  refine wp_region_held_drew (S := fun w' => w'.cell? ⟨gG, k * 5, none⟩ = some (I zs) ∧ w'.cell? ⟨gG, k * 5 + 1, none⟩ = some (I zr) ∧ w'.cell? ⟨gG, k * 5 + 2, none⟩ = some (I zv) ∧ w'.cell? ⟨gG, k * 5 + 3, none⟩ = some (I zf) ∧ w'.cell? ⟨gG, k * 5 + 4, none⟩ = some (I zt) ∧ w'.cell? ⟨y, 0, none⟩ = some (I xs)) (by kernel_rfl) ?_ (fun hHeld => ?_)
                  · exact hS.out _ hbd.out
                  by_cases hzx : zs = xs
                  · have zb : (zs != xs) = false := by rw [hzx]; simp
                    have zb2 : (zs == xs) = true := by rw [hzx]; simp
                    replace hzx := Lib.hid hzx
                    refine wpAnyH_take (i := 0) (v := ?v0_130) rfl (by kernel_rfl) (by kernel_rfl) (by kernel_rfl) (fun _ _ _ h => h) (Or.inl ⟨by rfl, ?y0_130⟩) hHeld ?r0_130
                    case y0_130 => (intro w hSw; (try dsimp only at hSw); go_split_ands; go_simp; try with_reducible rfl)
                    try simp only [List.getElem_toArray, List.getElem_cons_succ, List.getElem_cons_zero, Act.put, List.setIfInBounds_toArray, List.set_cons_zero, List.set_cons_succ]
                    refine wpAnyH_take (i := 1) (v := ?v1_131) rfl (by kernel_rfl) (by kernel_rfl) (by kernel_rfl) (fun _ _ _ h => h) (Or.inl ⟨by rfl, ?y1_131⟩) hHeld ?r1_131
                    case y1_131 => (intro w hSw; (try dsimp only at hSw); go_split_ands; go_simp; try with_reducible rfl)
                    try simp only [List.getElem_toArray, List.getElem_cons_succ, List.getElem_cons_zero, Act.put, List.setIfInBounds_toArray, List.set_cons_zero, List.set_cons_succ]
                    refine wpAnyH_take (i := 2) (v := ?v2_132) rfl (by kernel_rfl) (by kernel_rfl) (by kernel_rfl) (fun _ _ _ h => h) (Or.inl ⟨by rfl, ?y2_132⟩) hHeld ?r2_132
                    case y2_132 => (intro w hSw; (try dsimp only at hSw); go_split_ands; go_simp; try with_reducible rfl)
                    try simp only [List.getElem_toArray, List.getElem_cons_succ, List.getElem_cons_zero, Act.put, List.setIfInBounds_toArray, List.set_cons_zero, List.set_cons_succ]
                    refine wpAnyH_take (i := 3) (v := ?v3_133) rfl (by kernel_rfl) (by kernel_rfl) (by kernel_rfl) (fun _ _ _ h => h) (Or.inl ⟨by rfl, ?y3_133⟩) hHeld ?r3_133
                    case y3_133 => (intro w hSw; (try dsimp only at hSw); go_split_ands; go_simp; try with_reducible rfl)
                    try simp only [List.getElem_toArray, List.getElem_cons_succ, List.getElem_cons_zero, Act.put, List.setIfInBounds_toArray, List.set_cons_zero, List.set_cons_succ]
                    refine wpAnyH_take (i := 4) (v := ?v4_134) rfl (by kernel_rfl) (by kernel_rfl) (by kernel_rfl) (fun _ _ _ h => h) (Or.inl ⟨by rfl, ?y4_134⟩) hHeld ?r4_134
                    case y4_134 => (intro w hSw; (try dsimp only at hSw); go_split_ands; go_simp; try with_reducible rfl)
                    try simp only [List.getElem_toArray, List.getElem_cons_succ, List.getElem_cons_zero, Act.put, List.setIfInBounds_toArray, List.set_cons_zero, List.set_cons_succ]
                    refine wpAnyH_take (i := 5) (v := ?v5_135) rfl (by kernel_rfl) (by kernel_rfl) (by kernel_rfl) (fun _ _ _ h => h) (Or.inl ⟨by rfl, ?y5_135⟩) hHeld ?r5_135
                    case y5_135 => (intro w hSw; (try dsimp only at hSw); go_split_ands; go_simp; try with_reducible rfl)
                    try simp only [List.getElem_toArray, List.getElem_cons_succ, List.getElem_cons_zero, Act.put, List.setIfInBounds_toArray, List.set_cons_zero, List.set_cons_succ]
                    refine wpAnyH_take (i := 6) (v := ?v6_136) rfl (by kernel_rfl) (by kernel_rfl) (by kernel_rfl) (fun _ _ _ h => h) (Or.inl ⟨by rfl, ?y6_136⟩) hHeld ?r6_136
                    case y6_136 => (intro w hSw; (try dsimp only at hSw); go_split_ands; go_simp; try with_reducible rfl)
                    try simp only [List.getElem_toArray, List.getElem_cons_succ, List.getElem_cons_zero, Act.put, List.setIfInBounds_toArray, List.set_cons_zero, List.set_cons_succ]
                    refine wpAnyH_take (i := 7) (v := ?v7_137) rfl (by kernel_rfl) (by kernel_rfl) (by kernel_rfl) (fun _ _ _ h => h) (Or.inl ⟨by rfl, ?y7_137⟩) hHeld ?r7_137
                    case y7_137 => (intro w hSw; (try dsimp only at hSw); go_split_ands; go_simp; try with_reducible rfl)
                    try simp only [List.getElem_toArray, List.getElem_cons_succ, List.getElem_cons_zero, Act.put, List.setIfInBounds_toArray, List.set_cons_zero, List.set_cons_succ]
                    refine wpAnyH_take (i := 8) (v := ?v8_138) rfl (by kernel_rfl) (by kernel_rfl) (by kernel_rfl) (fun _ _ _ h => h) (Or.inl ⟨by rfl, ?y8_138⟩) hHeld ?r8_138
                    case y8_138 => (intro w hSw; (try dsimp only at hSw); go_split_ands; go_simp; try with_reducible rfl)
                    try simp only [List.getElem_toArray, List.getElem_cons_succ, List.getElem_cons_zero, Act.put, List.setIfInBounds_toArray, List.set_cons_zero, List.set_cons_succ]
                    refine wpAnyH_take (i := 9) (v := undef) rfl (by kernel_rfl) (by kernel_rfl) (by kernel_rfl) (fun _ _ _ h => h) (Or.inr ⟨by rfl, rfl⟩) hHeld ?_
                    try simp only [List.getElem_toArray, List.getElem_cons_succ, List.getElem_cons_zero, Act.put, List.setIfInBounds_toArray, List.set_cons_zero, List.set_cons_succ]
                    refine wpAnyH_take (i := 10) (v := undef) rfl (by kernel_rfl) (by kernel_rfl) (by kernel_rfl) (fun _ _ _ h => h) (Or.inr ⟨by rfl, rfl⟩) hHeld ?_
                    try simp only [List.getElem_toArray, List.getElem_cons_succ, List.getElem_cons_zero, Act.put, List.setIfInBounds_toArray, List.set_cons_zero, List.set_cons_succ]
                    refine wpAnyH_take (i := 11) (v := undef) rfl (by kernel_rfl) (by kernel_rfl) (by kernel_rfl) (fun _ _ _ h => h) (Or.inr ⟨by rfl, rfl⟩) hHeld ?_
                    try simp only [List.getElem_toArray, List.getElem_cons_succ, List.getElem_cons_zero, Act.put, List.setIfInBounds_toArray, List.set_cons_zero, List.set_cons_succ]
                    refine wpAnyH_take (i := 12) (v := undef) rfl (by kernel_rfl) (by kernel_rfl) (by kernel_rfl) (fun _ _ _ h => h) (Or.inr ⟨by rfl, rfl⟩) hHeld ?_
                    try simp only [List.getElem_toArray, List.getElem_cons_succ, List.getElem_cons_zero, Act.put, List.setIfInBounds_toArray, List.set_cons_zero, List.set_cons_succ]
                    refine wpAnyH_take (i := 13) (v := undef) rfl (by kernel_rfl) (by kernel_rfl) (by kernel_rfl) (fun _ _ _ h => h) (Or.inr ⟨by rfl, rfl⟩) hHeld ?_
                    try simp only [List.getElem_toArray, List.getElem_cons_succ, List.getElem_cons_zero, Act.put, List.setIfInBounds_toArray, List.set_cons_zero, List.set_cons_succ]
                    refine wpAnyH_take (i := 14) (v := undef) rfl (by kernel_rfl) (by kernel_rfl) (by kernel_rfl) (fun _ _ _ h => h) (Or.inr ⟨by rfl, rfl⟩) hHeld ?_
                    try simp only [List.getElem_toArray, List.getElem_cons_succ, List.getElem_cons_zero, Act.put, List.setIfInBounds_toArray, List.set_cons_zero, List.set_cons_succ]
                    refine wpAnyH_take (i := 15) (v := undef) rfl (by kernel_rfl) (by kernel_rfl) (by kernel_rfl) (fun _ _ _ h => h) (Or.inr ⟨by rfl, rfl⟩) hHeld ?_
                    try simp only [List.getElem_toArray, List.getElem_cons_succ, List.getElem_cons_zero, Act.put, List.setIfInBounds_toArray, List.set_cons_zero, List.set_cons_succ]
                    refine wpAnyH_take (i := 16) (v := undef) rfl (by kernel_rfl) (by kernel_rfl) (by kernel_rfl) (fun _ _ _ h => h) (Or.inr ⟨by rfl, rfl⟩) hHeld ?_
                    try simp only [List.getElem_toArray, List.getElem_cons_succ, List.getElem_cons_zero, Act.put, List.setIfInBounds_toArray, List.set_cons_zero, List.set_cons_succ]
                    refine wpAnyH_take (i := 17) (v := undef) rfl (by kernel_rfl) (by kernel_rfl) (by kernel_rfl) (fun _ _ _ h => h) (Or.inr ⟨by rfl, rfl⟩) hHeld ?_
                    try simp only [List.getElem_toArray, List.getElem_cons_succ, List.getElem_cons_zero, Act.put, List.setIfInBounds_toArray, List.set_cons_zero, List.set_cons_succ]
                    refine wpAnyH_take (i := 18) (v := undef) rfl (by kernel_rfl) (by kernel_rfl) (by kernel_rfl) (fun _ _ _ h => h) (Or.inr ⟨by rfl, rfl⟩) hHeld ?_
                    try simp only [List.getElem_toArray, List.getElem_cons_succ, List.getElem_cons_zero, Act.put, List.setIfInBounds_toArray, List.set_cons_zero, List.set_cons_succ]
                    refine wpAnyH_take (i := 19) (v := undef) rfl (by kernel_rfl) (by kernel_rfl) (by kernel_rfl) (fun _ _ _ h => h) (Or.inr ⟨by rfl, rfl⟩) hHeld ?_
                    try simp only [List.getElem_toArray, List.getElem_cons_succ, List.getElem_cons_zero, Act.put, List.setIfInBounds_toArray, List.set_cons_zero, List.set_cons_succ]
                    refine wpAnyH_take (i := 20) (v := undef) rfl (by kernel_rfl) (by kernel_rfl) (by kernel_rfl) (fun _ _ _ h => h) (Or.inr ⟨by rfl, rfl⟩) hHeld ?_
                    try simp only [List.getElem_toArray, List.getElem_cons_succ, List.getElem_cons_zero, Act.put, List.setIfInBounds_toArray, List.set_cons_zero, List.set_cons_succ]
                    refine wpAnyH_take (i := 21) (v := undef) rfl (by kernel_rfl) (by kernel_rfl) (by kernel_rfl) (fun _ _ _ h => h) (Or.inr ⟨by rfl, rfl⟩) hHeld ?_
                    try simp only [List.getElem_toArray, List.getElem_cons_succ, List.getElem_cons_zero, Act.put, List.setIfInBounds_toArray, List.set_cons_zero, List.set_cons_succ]
                    refine wpAnyH_take (i := 22) (v := undef) rfl (by kernel_rfl) (by kernel_rfl) (by kernel_rfl) (fun _ _ _ h => h) (Or.inr ⟨by rfl, rfl⟩) hHeld ?_
                    try simp only [List.getElem_toArray, List.getElem_cons_succ, List.getElem_cons_zero, Act.put, List.setIfInBounds_toArray, List.set_cons_zero, List.set_cons_succ]
                    refine wpAnyH_take (i := 23) (v := undef) rfl (by kernel_rfl) (by kernel_rfl) (by kernel_rfl) (fun _ _ _ h => h) (Or.inr ⟨by rfl, rfl⟩) hHeld ?_
                    try simp only [List.getElem_toArray, List.getElem_cons_succ, List.getElem_cons_zero, Act.put, List.setIfInBounds_toArray, List.set_cons_zero, List.set_cons_succ]
                    refine wpAnyH_take (i := 24) (v := undef) rfl (by kernel_rfl) (by kernel_rfl) (by kernel_rfl) (fun _ _ _ h => h) (Or.inr ⟨by rfl, rfl⟩) hHeld ?_
                    try simp only [List.getElem_toArray, List.getElem_cons_succ, List.getElem_cons_zero, Act.put, List.setIfInBounds_toArray, List.set_cons_zero, List.set_cons_succ]
                    refine wpAnyH_take (i := 25) (v := undef) rfl (by kernel_rfl) (by kernel_rfl) (by kernel_rfl) (fun _ _ _ h => h) (Or.inr ⟨by rfl, rfl⟩) hHeld ?_
                    try simp only [List.getElem_toArray, List.getElem_cons_succ, List.getElem_cons_zero, Act.put, List.setIfInBounds_toArray, List.set_cons_zero, List.set_cons_succ]
                    refine wpAnyH_take (i := 26) (v := undef) rfl (by kernel_rfl) (by kernel_rfl) (by kernel_rfl) (fun _ _ _ h => h) (Or.inr ⟨by rfl, rfl⟩) hHeld ?_
                    try simp only [List.getElem_toArray, List.getElem_cons_succ, List.getElem_cons_zero, Act.put, List.setIfInBounds_toArray, List.set_cons_zero, List.set_cons_succ]
                    refine wpAnyH_take (i := 27) (v := undef) rfl (by kernel_rfl) (by kernel_rfl) (by kernel_rfl) (fun _ _ _ h => h) (Or.inr ⟨by rfl, rfl⟩) hHeld ?_
                    try simp only [List.getElem_toArray, List.getElem_cons_succ, List.getElem_cons_zero, Act.put, List.setIfInBounds_toArray, List.set_cons_zero, List.set_cons_succ]
                    refine wpAnyH_take (i := 28) (v := undef) rfl (by kernel_rfl) (by kernel_rfl) (by kernel_rfl) (fun _ _ _ h => h) (Or.inr ⟨by rfl, rfl⟩) hHeld ?_
                    try simp only [List.getElem_toArray, List.getElem_cons_succ, List.getElem_cons_zero, Act.put, List.setIfInBounds_toArray, List.set_cons_zero, List.set_cons_succ]
                    refine wpAnyH_take (i := 29) (v := undef) rfl (by kernel_rfl) (by kernel_rfl) (by kernel_rfl) (fun _ _ _ h => h) (Or.inr ⟨by rfl, rfl⟩) hHeld ?_
                    try simp only [List.getElem_toArray, List.getElem_cons_succ, List.getElem_cons_zero, Act.put, List.setIfInBounds_toArray, List.set_cons_zero, List.set_cons_succ]
                    refine wpAnyH_take (i := 30) (v := undef) rfl (by kernel_rfl) (by kernel_rfl) (by kernel_rfl) (fun _ _ _ h => h) (Or.inr ⟨by rfl, rfl⟩) hHeld ?_
                    try simp only [List.getElem_toArray, List.getElem_cons_succ, List.getElem_cons_zero, Act.put, List.setIfInBounds_toArray, List.set_cons_zero, List.set_cons_succ]
                    refine wpAnyH_take (i := 31) (v := undef) rfl (by kernel_rfl) (by kernel_rfl) (by kernel_rfl) (fun _ _ _ h => h) (Or.inr ⟨by rfl, rfl⟩) hHeld ?_
                    try simp only [List.getElem_toArray, List.getElem_cons_succ, List.getElem_cons_zero, Act.put, List.setIfInBounds_toArray, List.set_cons_zero, List.set_cons_succ]
                    refine wpAnyH_take (i := 32) (v := undef) rfl (by kernel_rfl) (by kernel_rfl) (by kernel_rfl) (fun _ _ _ h => h) (Or.inr ⟨by rfl, rfl⟩) hHeld ?_
                    try simp only [List.getElem_toArray, List.getElem_cons_succ, List.getElem_cons_zero, Act.put, List.setIfInBounds_toArray, List.set_cons_zero, List.set_cons_succ]
                    refine wpAnyH_take (i := 33) (v := undef) rfl (by kernel_rfl) (by kernel_rfl) (by kernel_rfl) (fun _ _ _ h => h) (Or.inr ⟨by rfl, rfl⟩) hHeld ?_
                    try simp only [List.getElem_toArray, List.getElem_cons_succ, List.getElem_cons_zero, Act.put, List.setIfInBounds_toArray, List.set_cons_zero, List.set_cons_succ]
                    refine wpAnyH_take (i := 34) (v := ?v34_139) rfl (by kernel_rfl) (by kernel_rfl) (by kernel_rfl) (fun _ _ _ h => h) (Or.inl ⟨by rfl, ?y34_139⟩) hHeld ?r34_139
                    case y34_139 => (intro w hSw; (try dsimp only at hSw); go_split_ands; go_simp; try with_reducible rfl)
                    try simp only [List.getElem_toArray, List.getElem_cons_succ, List.getElem_cons_zero, Act.put, List.setIfInBounds_toArray, List.set_cons_zero, List.set_cons_succ]
                    refine wpAnyH_done (by kernel_rfl) ?_ _
                    go_wp2_with fail
                    go_roundw
                    case rel => exact ⟨k + 1, by omega, by go_num, hbz.out.dr⟩
                    case measure => simp [intOf] <;> omega
                  · have zb : (zs != xs) = true := by simp [hzx]
                    have zb2 : (zs == xs) = false := beq_eq_false_iff_ne.2 hzx
                    have hEe := hEk.out hzx
                    try simp only at hEe
                    have hCk := hCk.out
                    simp only [hEe] at hCk
                    obtain ⟨ee, hee⟩ : ∃ e, chkE U G S ⟨zs, zr, zv, zf, zt⟩ zv at_ = e := ⟨_, rfl⟩
                    have hDk := hDk.out
                    simp only [hee] at hCk hDk
                    replace hzx := Lib.hid hzx
                    replace hCk := Lib.hid hCk
                    replace hDk := Lib.hid hDk
                    clear hEe hee
                    refine wpAnyH_take (i := 0) (v := ?v0_140) rfl (by kernel_rfl) (by kernel_rfl) (by kernel_rfl) (fun _ _ _ h => h) (Or.inl ⟨by rfl, ?y0_140⟩) hHeld ?r0_140
                    case y0_140 => (intro w hSw; (try dsimp only at hSw); go_split_ands; go_simp; try with_reducible rfl)
                    try simp only [List.getElem_toArray, List.getElem_cons_succ, List.getElem_cons_zero, Act.put, List.setIfInBounds_toArray, List.set_cons_zero, List.set_cons_succ]
                    refine wpAnyH_take (i := 1) (v := ?v1_141) rfl (by kernel_rfl) (by kernel_rfl) (by kernel_rfl) (fun _ _ _ h => h) (Or.inl ⟨by rfl, ?y1_141⟩) hHeld ?r1_141
                    case y1_141 => (intro w hSw; (try dsimp only at hSw); go_split_ands; go_simp; try with_reducible rfl)
                    try simp only [List.getElem_toArray, List.getElem_cons_succ, List.getElem_cons_zero, Act.put, List.setIfInBounds_toArray, List.set_cons_zero, List.set_cons_succ]
                    refine wpAnyH_take (i := 2) (v := ?v2_142) rfl (by kernel_rfl) (by kernel_rfl) (by kernel_rfl) (fun _ _ _ h => h) (Or.inl ⟨by rfl, ?y2_142⟩) hHeld ?r2_142
                    case y2_142 => (intro w hSw; (try dsimp only at hSw); go_split_ands; go_simp; try with_reducible rfl)
                    try simp only [List.getElem_toArray, List.getElem_cons_succ, List.getElem_cons_zero, Act.put, List.setIfInBounds_toArray, List.set_cons_zero, List.set_cons_succ]
                    refine wpAnyH_take (i := 3) (v := ?v3_143) rfl (by kernel_rfl) (by kernel_rfl) (by kernel_rfl) (fun _ _ _ h => h) (Or.inl ⟨by rfl, ?y3_143⟩) hHeld ?r3_143
                    case y3_143 => (intro w hSw; (try dsimp only at hSw); go_split_ands; go_simp; try with_reducible rfl)
                    try simp only [List.getElem_toArray, List.getElem_cons_succ, List.getElem_cons_zero, Act.put, List.setIfInBounds_toArray, List.set_cons_zero, List.set_cons_succ]
                    refine wpAnyH_take (i := 4) (v := ?v4_144) rfl (by kernel_rfl) (by kernel_rfl) (by kernel_rfl) (fun _ _ _ h => h) (Or.inl ⟨by rfl, ?y4_144⟩) hHeld ?r4_144
                    case y4_144 => (intro w hSw; (try dsimp only at hSw); go_split_ands; go_simp; try with_reducible rfl)
                    try simp only [List.getElem_toArray, List.getElem_cons_succ, List.getElem_cons_zero, Act.put, List.setIfInBounds_toArray, List.set_cons_zero, List.set_cons_succ]
                    refine wpAnyH_take (i := 5) (v := ?v5_145) rfl (by kernel_rfl) (by kernel_rfl) (by kernel_rfl) (fun _ _ _ h => h) (Or.inl ⟨by rfl, ?y5_145⟩) hHeld ?r5_145
                    case y5_145 => (intro w hSw; (try dsimp only at hSw); go_split_ands; go_simp; try with_reducible rfl)
                    try simp only [List.getElem_toArray, List.getElem_cons_succ, List.getElem_cons_zero, Act.put, List.setIfInBounds_toArray, List.set_cons_zero, List.set_cons_succ]
                    refine wpAnyH_take (i := 6) (v := ?v6_146) rfl (by kernel_rfl) (by kernel_rfl) (by kernel_rfl) (fun _ _ _ h => h) (Or.inl ⟨by rfl, ?y6_146⟩) hHeld ?r6_146
                    case y6_146 => (intro w hSw; (try dsimp only at hSw); go_split_ands; go_simp; try with_reducible rfl)
                    try simp only [List.getElem_toArray, List.getElem_cons_succ, List.getElem_cons_zero, Act.put, List.setIfInBounds_toArray, List.set_cons_zero, List.set_cons_succ]
                    refine wpAnyH_take (i := 7) (v := ?v7_147) rfl (by kernel_rfl) (by kernel_rfl) (by kernel_rfl) (fun _ _ _ h => h) (Or.inl ⟨by rfl, ?y7_147⟩) hHeld ?r7_147
                    case y7_147 => (intro w hSw; (try dsimp only at hSw); go_split_ands; go_simp; try with_reducible rfl)
                    try simp only [List.getElem_toArray, List.getElem_cons_succ, List.getElem_cons_zero, Act.put, List.setIfInBounds_toArray, List.set_cons_zero, List.set_cons_succ]
                    refine wpAnyH_take (i := 8) (v := ?v8_148) rfl (by kernel_rfl) (by kernel_rfl) (by kernel_rfl) (fun _ _ _ h => h) (Or.inl ⟨by rfl, ?y8_148⟩) hHeld ?r8_148
                    case y8_148 => (intro w hSw; (try dsimp only at hSw); go_split_ands; go_simp; try with_reducible rfl)
                    try simp only [List.getElem_toArray, List.getElem_cons_succ, List.getElem_cons_zero, Act.put, List.setIfInBounds_toArray, List.set_cons_zero, List.set_cons_succ]
                    refine wpAnyH_take (i := 9) (v := ?v9_149) rfl (by kernel_rfl) (by kernel_rfl) (by kernel_rfl) (fun _ _ _ h => h) (Or.inl ⟨by rfl, ?y9_149⟩) hHeld ?r9_149
                    case y9_149 => (intro w hSw; (try dsimp only at hSw); go_split_ands; go_simp; try with_reducible rfl)
                    try simp only [List.getElem_toArray, List.getElem_cons_succ, List.getElem_cons_zero, Act.put, List.setIfInBounds_toArray, List.set_cons_zero, List.set_cons_succ]
                    refine wpAnyH_take (i := 10) (v := ?v10_150) rfl (by kernel_rfl) (by kernel_rfl) (by kernel_rfl) (fun _ _ _ h => h) (Or.inl ⟨by rfl, ?y10_150⟩) hHeld ?r10_150
                    case y10_150 => (intro w hSw; (try dsimp only at hSw); go_split_ands; go_simp; try with_reducible rfl)
                    try simp only [List.getElem_toArray, List.getElem_cons_succ, List.getElem_cons_zero, Act.put, List.setIfInBounds_toArray, List.set_cons_zero, List.set_cons_succ]
                    refine wpAnyH_take (i := 11) (v := ?v11_151) rfl (by kernel_rfl) (by kernel_rfl) (by kernel_rfl) (fun _ _ _ h => h) (Or.inl ⟨by rfl, ?y11_151⟩) hHeld ?r11_151
                    case y11_151 => (intro w hSw; (try dsimp only at hSw); go_split_ands; go_simp; try with_reducible rfl)
                    try simp only [List.getElem_toArray, List.getElem_cons_succ, List.getElem_cons_zero, Act.put, List.setIfInBounds_toArray, List.set_cons_zero, List.set_cons_succ]
                    refine wpAnyH_take (i := 12) (v := ?v12_152) rfl (by kernel_rfl) (by kernel_rfl) (by kernel_rfl) (fun _ _ _ h => h) (Or.inl ⟨by rfl, ?y12_152⟩) hHeld ?r12_152
                    case y12_152 => (intro w hSw; (try dsimp only at hSw); go_split_ands; go_simp; try with_reducible rfl)
                    try simp only [List.getElem_toArray, List.getElem_cons_succ, List.getElem_cons_zero, Act.put, List.setIfInBounds_toArray, List.set_cons_zero, List.set_cons_succ]
                    refine wpAnyH_take (i := 13) (v := ?v13_153) rfl (by kernel_rfl) (by kernel_rfl) (by kernel_rfl) (fun _ _ _ h => h) (Or.inl ⟨by rfl, ?y13_153⟩) hHeld ?r13_153
                    case y13_153 => (intro w hSw; (try dsimp only at hSw); go_split_ands; go_simp; try with_reducible rfl)
                    try simp only [List.getElem_toArray, List.getElem_cons_succ, List.getElem_cons_zero, Act.put, List.setIfInBounds_toArray, List.set_cons_zero, List.set_cons_succ]
                    refine wpAnyH_take (i := 14) (v := ?v14_154) rfl (by kernel_rfl) (by kernel_rfl) (by kernel_rfl) (fun _ _ _ h => h) (Or.inl ⟨by rfl, ?y14_154⟩) hHeld ?r14_154
                    case y14_154 => (intro w hSw; (try dsimp only at hSw); go_split_ands; go_simp; try with_reducible rfl)
                    try simp only [List.getElem_toArray, List.getElem_cons_succ, List.getElem_cons_zero, Act.put, List.setIfInBounds_toArray, List.set_cons_zero, List.set_cons_succ]
                    refine wpAnyH_take (i := 15) (v := ?v15_155) rfl (by kernel_rfl) (by kernel_rfl) (by kernel_rfl) (fun _ _ _ h => h) (Or.inl ⟨by rfl, ?y15_155⟩) hHeld ?r15_155
                    case y15_155 => (intro w hSw; (try dsimp only at hSw); go_split_ands; go_simp; try with_reducible rfl)
                    try simp only [List.getElem_toArray, List.getElem_cons_succ, List.getElem_cons_zero, Act.put, List.setIfInBounds_toArray, List.set_cons_zero, List.set_cons_succ]
                    refine wpAnyH_take (i := 16) (v := ?v16_156) rfl (by kernel_rfl) (by kernel_rfl) (by kernel_rfl) (fun _ _ _ h => h) (Or.inl ⟨by rfl, ?y16_156⟩) hHeld ?r16_156
                    case y16_156 => (intro w hSw; (try dsimp only at hSw); go_split_ands; go_simp; try with_reducible rfl)
                    try simp only [List.getElem_toArray, List.getElem_cons_succ, List.getElem_cons_zero, Act.put, List.setIfInBounds_toArray, List.set_cons_zero, List.set_cons_succ]
                    refine wpAnyH_take (i := 17) (v := ?v17_157) rfl (by kernel_rfl) (by kernel_rfl) (by kernel_rfl) (fun _ _ _ h => h) (Or.inl ⟨by rfl, ?y17_157⟩) hHeld ?r17_157
                    case y17_157 => (intro w hSw; (try dsimp only at hSw); go_split_ands; go_simp; try with_reducible rfl)
                    try simp only [List.getElem_toArray, List.getElem_cons_succ, List.getElem_cons_zero, Act.put, List.setIfInBounds_toArray, List.set_cons_zero, List.set_cons_succ]
                    refine wpAnyH_take (i := 18) (v := ?v18_158) rfl (by kernel_rfl) (by kernel_rfl) (by kernel_rfl) (fun _ _ _ h => h) (Or.inl ⟨by rfl, ?y18_158⟩) hHeld ?r18_158
                    case y18_158 => (intro w hSw; (try dsimp only at hSw); go_split_ands; go_simp; try with_reducible rfl)
                    try simp only [List.getElem_toArray, List.getElem_cons_succ, List.getElem_cons_zero, Act.put, List.setIfInBounds_toArray, List.set_cons_zero, List.set_cons_succ]
                    refine wpAnyH_take (i := 19) (v := ?v19_159) rfl (by kernel_rfl) (by kernel_rfl) (by kernel_rfl) (fun _ _ _ h => h) (Or.inl ⟨by rfl, ?y19_159⟩) hHeld ?r19_159
                    case y19_159 => (intro w hSw; (try dsimp only at hSw); go_split_ands; go_simp; try with_reducible rfl)
                    try simp only [List.getElem_toArray, List.getElem_cons_succ, List.getElem_cons_zero, Act.put, List.setIfInBounds_toArray, List.set_cons_zero, List.set_cons_succ]
                    refine wpAnyH_take (i := 21) (v := ?v21_160) rfl (by kernel_rfl) (by kernel_rfl) (by kernel_rfl) (fun _ _ _ h => h) (Or.inl ⟨by rfl, ?y21_160⟩) hHeld ?r21_160
                    case y21_160 => (intro w hSw; (try dsimp only at hSw); go_split_ands; go_simp; try with_reducible rfl)
                    try simp only [List.getElem_toArray, List.getElem_cons_succ, List.getElem_cons_zero, Act.put, List.setIfInBounds_toArray, List.set_cons_zero, List.set_cons_succ]
                    refine wpAnyH_take (i := 22) (v := ?v22_161) rfl (by kernel_rfl) (by kernel_rfl) (by kernel_rfl) (fun _ _ _ h => h) (Or.inl ⟨by rfl, ?y22_161⟩) hHeld ?r22_161
                    case y22_161 => (intro w hSw; (try dsimp only at hSw); go_split_ands; go_simp; try with_reducible rfl)
                    try simp only [List.getElem_toArray, List.getElem_cons_succ, List.getElem_cons_zero, Act.put, List.setIfInBounds_toArray, List.set_cons_zero, List.set_cons_succ]
                    refine wpAnyH_take (i := 23) (v := ?v23_162) rfl (by kernel_rfl) (by kernel_rfl) (by kernel_rfl) (fun _ _ _ h => h) (Or.inl ⟨by rfl, ?y23_162⟩) hHeld ?r23_162
                    case y23_162 => (intro w hSw; (try dsimp only at hSw); go_split_ands; go_simp; try with_reducible rfl)
                    try simp only [List.getElem_toArray, List.getElem_cons_succ, List.getElem_cons_zero, Act.put, List.setIfInBounds_toArray, List.set_cons_zero, List.set_cons_succ]
                    refine wpAnyH_take (i := 24) (v := ?v24_163) rfl (by kernel_rfl) (by kernel_rfl) (by kernel_rfl) (fun _ _ _ h => h) (Or.inl ⟨by rfl, ?y24_163⟩) hHeld ?r24_163
                    case y24_163 => (intro w hSw; (try dsimp only at hSw); go_split_ands; go_simp; try with_reducible rfl)
                    try simp only [List.getElem_toArray, List.getElem_cons_succ, List.getElem_cons_zero, Act.put, List.setIfInBounds_toArray, List.set_cons_zero, List.set_cons_succ]
                    refine wpAnyH_take (i := 25) (v := ?v25_164) rfl (by kernel_rfl) (by kernel_rfl) (by kernel_rfl) (fun _ _ _ h => h) (Or.inl ⟨by rfl, ?y25_164⟩) hHeld ?r25_164
                    case y25_164 => (intro w hSw; (try dsimp only at hSw); go_split_ands; go_simp; try with_reducible rfl)
                    try simp only [List.getElem_toArray, List.getElem_cons_succ, List.getElem_cons_zero, Act.put, List.setIfInBounds_toArray, List.set_cons_zero, List.set_cons_succ]
                    refine wpAnyH_take (i := 26) (v := ?v26_165) rfl (by kernel_rfl) (by kernel_rfl) (by kernel_rfl) (fun _ _ _ h => h) (Or.inl ⟨by rfl, ?y26_165⟩) hHeld ?r26_165
                    case y26_165 => (intro w hSw; (try dsimp only at hSw); go_split_ands; go_simp; try with_reducible rfl)
                    try simp only [List.getElem_toArray, List.getElem_cons_succ, List.getElem_cons_zero, Act.put, List.setIfInBounds_toArray, List.set_cons_zero, List.set_cons_succ]
                    refine wpAnyH_take (i := 27) (v := ?v27_166) rfl (by kernel_rfl) (by kernel_rfl) (by kernel_rfl) (fun _ _ _ h => h) (Or.inl ⟨by rfl, ?y27_166⟩) hHeld ?r27_166
                    case y27_166 => (intro w hSw; (try dsimp only at hSw); go_split_ands; go_simp; try with_reducible rfl)
                    try simp only [List.getElem_toArray, List.getElem_cons_succ, List.getElem_cons_zero, Act.put, List.setIfInBounds_toArray, List.set_cons_zero, List.set_cons_succ]
                    refine wpAnyH_take (i := 28) (v := ?v28_167) rfl (by kernel_rfl) (by kernel_rfl) (by kernel_rfl) (fun _ _ _ h => h) (Or.inl ⟨by rfl, ?y28_167⟩) hHeld ?r28_167
                    case y28_167 => (intro w hSw; (try dsimp only at hSw); go_split_ands; go_simp; try with_reducible rfl)
                    try simp only [List.getElem_toArray, List.getElem_cons_succ, List.getElem_cons_zero, Act.put, List.setIfInBounds_toArray, List.set_cons_zero, List.set_cons_succ]
                    refine wpAnyH_take (i := 29) (v := ?v29_168) rfl (by kernel_rfl) (by kernel_rfl) (by kernel_rfl) (fun _ _ _ h => h) (Or.inl ⟨by rfl, ?y29_168⟩) hHeld ?r29_168
                    case y29_168 => (intro w hSw; (try dsimp only at hSw); go_split_ands; go_simp; try with_reducible rfl)
                    try simp only [List.getElem_toArray, List.getElem_cons_succ, List.getElem_cons_zero, Act.put, List.setIfInBounds_toArray, List.set_cons_zero, List.set_cons_succ]
                    refine wpAnyH_take (i := 30) (v := ?v30_169) rfl (by kernel_rfl) (by kernel_rfl) (by kernel_rfl) (fun _ _ _ h => h) (Or.inl ⟨by rfl, ?y30_169⟩) hHeld ?r30_169
                    case y30_169 => (intro w hSw; (try dsimp only at hSw); go_split_ands; go_simp; try with_reducible rfl)
                    try simp only [List.getElem_toArray, List.getElem_cons_succ, List.getElem_cons_zero, Act.put, List.setIfInBounds_toArray, List.set_cons_zero, List.set_cons_succ]
                    refine wpAnyH_take (i := 31) (v := ?v31_170) rfl (by kernel_rfl) (by kernel_rfl) (by kernel_rfl) (fun _ _ _ h => h) (Or.inl ⟨by rfl, ?y31_170⟩) hHeld ?r31_170
                    case y31_170 => (intro w hSw; (try dsimp only at hSw); go_split_ands; go_simp; try with_reducible rfl)
                    try simp only [List.getElem_toArray, List.getElem_cons_succ, List.getElem_cons_zero, Act.put, List.setIfInBounds_toArray, List.set_cons_zero, List.set_cons_succ]
                    refine wpAnyH_ready (rs := [20]) (by kernel_rfl) (by simp) ?_
                    refine AllReadyH.cons rfl (fun K hK => ?_) AllReadyH.nil
                    have hHeld' := hHeld
                    try dsimp only at hHeld'
                    go_split_ands
                    go_simp
                    first | with_reducible refine (hCk.out _ hbd.out).mono ?_ | refine (hCk.out _ hbd.out).mono ?_
                    rintro e w11 ⟨rfl, hb11⟩
                    have hbe := Lib.hid (hbd.out.tr hb11)
                    refine hK.out _ _ ?_ (fun hHeld => ?_)
                    · exact hS.out _ hbe.out
                    clear hK K
                    try simp only [List.getElem_toArray, List.getElem_cons_succ, List.getElem_cons_zero, Act.put, List.setIfInBounds_toArray, List.set_cons_zero, List.set_cons_succ]
                    refine wpAnyH_ready (rs := [32]) (by kernel_rfl) (by simp) ?_
                    refine AllReadyH.cons rfl (fun K hK => ?_) AllReadyH.nil
                    have hHeld' := hHeld
                    try dsimp only at hHeld'
                    go_split_ands
                    go_simp
                    first | with_reducible refine (hDk.out _ hbe.out).mono ?_ | refine (hDk.out _ hbe.out).mono ?_
                    rintro e w12 ⟨rfl, hb12⟩
                    have hbf := Lib.hid (hbe.out.tr hb12)
                    have hbz2 := Lib.hid ((hbz.out.dr.tr hb11).tr hb12)
                    refine hK.out _ _ ?_ (fun hHeld => ?_)
                    · exact hS.out _ hbf.out
                    clear hK K
                    try simp only [List.getElem_toArray, List.getElem_cons_succ, List.getElem_cons_zero, Act.put, List.setIfInBounds_toArray, List.set_cons_zero, List.set_cons_succ]
                    refine wpAnyH_take (i := 33) (v := ?v33_171) rfl (by kernel_rfl) (by kernel_rfl) (by kernel_rfl) (fun _ _ _ h => h) (Or.inl ⟨by rfl, ?y33_171⟩) hHeld ?r33_171
                    case y33_171 => (intro w hSw; (try dsimp only at hSw); go_split_ands; go_simp; try with_reducible rfl)
                    try simp only [List.getElem_toArray, List.getElem_cons_succ, List.getElem_cons_zero, Act.put, List.setIfInBounds_toArray, List.set_cons_zero, List.set_cons_succ]
                    refine wpAnyH_take (i := 34) (v := ?v34_172) rfl (by kernel_rfl) (by kernel_rfl) (by kernel_rfl) (fun _ _ _ h => h) (Or.inl ⟨by rfl, ?y34_172⟩) hHeld ?r34_172
                    case y34_172 => (intro w hSw; (try dsimp only at hSw); go_split_ands; go_simp; try with_reducible rfl)
                    try simp only [List.getElem_toArray, List.getElem_cons_succ, List.getElem_cons_zero, Act.put, List.setIfInBounds_toArray, List.set_cons_zero, List.set_cons_succ]
                    refine wpAnyH_done (by kernel_rfl) ?_ _
                    go_wp2_with fail
                    go_roundw
                    case rel => exact ⟨k + 1, by omega, by go_num, hbz2.out⟩
                    case measure => simp [intOf] <;> omega
                · obtain rfl : N = k := by omega
                  replace hbt2 := Lib.hid hbt2
                  have RT3 := RT2.out _ hbt2.out
                  replace RT3 := Lib.hid RT3
                  go_wp2_with fail
                  first | with_reducible refine (RT3.out).mono ?_ | refine (RT3.out).mono ?_
                  rintro e w13 ⟨vs, rfl, hSo, hb13⟩
                  have hSi := OwnB.ints hSo
                  have hRi2 : IntsAt w13 (.slice aR nr cR) R := by
                    exact hRi.out.below (((hw8.tr hb9).tr hbz).tr hb13)
                  have hml : R.length ≤ maxLen := by rw [hnr.out]; unfold maxLen; omega
                  have SM := same_any R R (.slice aR nr cR) vs w13 hRi2 hSi hml hml
                  rw [show decide (R = R) = true from decide_eq_true rfl] at SM
                  have hbh := hb5.out.tr (hbt2.out.tr hb13)
                  replace SM := Lib.hid SM
                  replace hbh := Lib.hid hbh
                  clear RT3 hSo hSi hRi2
                  go_wp2_with fail
                  first | with_reducible refine (SM.out).mono ?_ | refine (SM.out).mono ?_
                  rintro e w14 ⟨rfl, hb14⟩
                  go_wp2_with fail
                  first | with_reducible refine (LV.out _).mono ?_ | refine (LV.out _).mono ?_
                  rintro e w15 ⟨rfl, hb15⟩
                  have hbi := (hbh.out.tr hb14).tr hb15
                  go_wp2_with fail
                  go_ret
                  exact ⟨rfl, hbi⟩
    · simp only [if_pos (show ((1 : Int) ≤ xs ∧ xs ≤ (N : Int) ∧ xs ∉ S) from ⟨by omega, by omega, hs⟩)] at RE
      have ne : (E0 == 22) = false := beq_eq_false_iff_ne.2 (fun h => hs (hE h))
      have hsm : ∀ v, v ≠ xs → (v ∈ xs :: S ↔ v ∈ S) := fun v hv => by simp [hv]
      have hsi : xs ∈ xs :: S := by simp
      clear hE hs hC
      replace RE := Lib.hid RE
      replace hD := Lib.hid hD
      replace hRG := Lib.hid hRG
      replace hX := Lib.hid hX
      replace hb5 := Lib.hid hb5
      replace hsm := Lib.hid hsm
      replace hsi := Lib.hid hsi
      go_wp2_with fail
      first | with_reducible refine (RE.out).mono ?_ | refine (RE.out).mono ?_
      rintro e w6 ⟨rfl, hC', hT6, -⟩
      have hD := hD.out.tch hT6 hdis.out
      have hRG := hRG.out.tch hT6 hgb
      have hX := hT6.var hX.out (fun h => hyk.out _ h hy.symm)
      have hb5 := hb5.out.tch hT6 (fun k hk => (hks3.out k hk).1)
      have RF := revoke_any hC' (by rw [hN.out]; omega) xs
      unfold RevokeD at RF
      obtain ⟨SS, hSS⟩ : ∃ SS : List Int, xs :: S = SS := ⟨_, rfl⟩
      rw [hSS] at hC' hsm hsi RF
      rw [hN.out] at RF
      simp only [if_neg (show ¬ ((1 : Int) ≤ xs ∧ xs ≤ (N : Int) ∧ xs ∉ SS) from fun h => h.2.2 hsi.out)] at RF
      obtain ⟨y0, y1, y2, y3, y4⟩ := five hX
      replace RF := Lib.hid RF
      replace hC' := Lib.hid hC'
      replace hD := Lib.hid hD
      replace hRG := Lib.hid hRG
      replace hX := Lib.hid hX
      replace hb5 := Lib.hid hb5
      clear RE hT6 hSS
      go_wp2_with fail
      first | with_reducible refine (RF.out).mono ?_ | refine (RF.out).mono ?_
      rintro e w7 ⟨rfl, rfl⟩
      clear RF
      obtain ⟨y0, y1, y2, y3, y4⟩ := five hX.out
      go_wp2_with fail
      first | with_reducible refine (A2.out _).mono ?_ | refine (A2.out _).mono ?_
      rintro e w' ⟨rfl, rfl⟩
      obtain ⟨at_, hat⟩ : ∃ z_, (t + o2) = z_ := ⟨_, rfl⟩
      have RT := roots_any hC'.out (by omega) at_
      have hRm := fun v => mem_rootsTo U at_ v (U.length + 1)
      have hRl := rootsTo_len U at_ (U.length + 1)
      obtain ⟨R, hR⟩ : ∃ R, rootsTo U at_ (U.length + 1) = R := ⟨_, rfl⟩
      rw [hR] at RT hRl
      simp only [hR] at hRm
      have RT2 := fun w' (hb : Bl w7 w') => roots_any (hD.out.bl hb) (by omega) at_
      simp only [hR] at RT2
      have CE := fun w' (hb : Bl w7 w') => check_any (hC'.out.bl hb) (by omega) (by rw [hN.out]; omega) ⟨xs, xr, xv, xf, xt⟩ xv at_ hxo
      rw [chk_gone hgv.out hsi.out] at CE
      have hrt : trB U xr at_ = true ↔ xr ∈ R := by rw [hRm xr]; exact ⟨fun h => ⟨by omega, h⟩, fun h => h.2⟩
      have hTk := fun k hk => mem_take_succ_i R xr k hk
      have hTz : decide (xr ∈ R.take 0) = false := by simp
      have hTa : R.take R.length = R := List.take_length
      have hCh := fun w' (hb : Bl w7 w') i (hi : i < N) => check_any (hC'.out.bl hb) (by omega) (by rw [hN.out]; omega) (G.getD i c0) (G.getD i c0).v at_ (hok2.out _ (getD_mem G i c0 (by rw [hN.out]; exact hi))).1
      have hDh := fun w' (hb : Bl w7 w') i (hi : i < N) => check_any (hD.out.bl hb) (by omega) (by rw [hN.out]; omega) (G.getD i c0) (G.getD i c0).v at_ (hok2.out _ (getD_mem G i c0 (by rw [hN.out]; exact hi))).1
      have hEq := fun i (h : (G.getD i c0).s ≠ xs) => chk_same (U := U) (G := G) (S := S) (S' := SS) (c := G.getD i c0) (v := (G.getD i c0).v) (now := at_) (hsm.out _ h)
      obtain ⟨trx, htrx⟩ : ∃ b, trB U xr at_ = b := ⟨_, rfl⟩
      rw [htrx] at CE hrt
      replace RT := Lib.hid RT
      replace RT2 := Lib.hid RT2
      replace CE := Lib.hid CE
      replace hTk := Lib.hid hTk
      replace hTz := Lib.hid hTz
      replace hTa := Lib.hid hTa
      replace hCh := Lib.hid hCh
      replace hDh := Lib.hid hDh
      replace hEq := Lib.hid hEq
      replace hrt := Lib.hid hrt
      clear hRm htrx hR
      replace hat := Lib.hid hat
      have hat' := hat.out
      go_wp2_with fail
      first | with_reducible refine (RT.out).mono ?_ | refine (RT.out).mono ?_
      rintro e w8 ⟨vr, rfl, hRo, hb8⟩
      have hRi := OwnB.ints hRo
      obtain ⟨aR, gR, cR, rfl, -, -, -, hRR⟩ := hRo.row (by decide)
      have hX8 := blk_bl hX.out hb8
      obtain ⟨nr, hnr⟩ : ∃ n, R.length = n := ⟨_, rfl⟩
      rw [hnr] at hRl hRi ⊢
      have hTk := hTk.out; have hTa := hTa.out
      rw [hnr] at hTa
      simp only [hnr] at hTk
      replace hRi := Lib.hid hRi
      replace hRR := Lib.hid hRR
      replace hX8 := Lib.hid hX8
      replace hnr := Lib.hid hnr
      replace hTk := Lib.hid hTk
      replace hTa := Lib.hid hTa
      replace hb8 := Lib.hid hb8
      clear RT hRo
      go_wp2_with fail
      go_loopw [18, 20] (fun tv i wz => ∃ k : Nat, k ≤ nr ∧ i = I k ∧ tv = .bool (decide (xr ∈ R.take k)) ∧ Bl w8 wz) (fun _ i _ => nr - (intOf i).toNat)
      case atStart => exact ⟨0, by omega, rfl, by rw [hTz.out], Bl.rfl' _⟩
      case round =>
        obtain ⟨k, hk, rfl, rfl, hbz⟩ := hrel
        obtain ⟨y0, y1, y2, y3, y4⟩ := five (blk_bl hX8.out hbz)
        by_cases hlt : k < nr
        · have q0 := ((hRR.out.bl hbz).c0 iB_len 0 k (by rw [hnr.out]; exact hlt)).2 0 (by decide)
          obtain ⟨rfl, -⟩ := (hRR.out.bl hbz).c0 iB_len 0 k (by rw [hnr.out]; exact hlt)
          simp only [Nat.mul_one, Nat.add_zero, List.getElem?_cons_zero] at q0
          have ht1 := hTk.out k hlt
          obtain ⟨rv, hrv⟩ : ∃ z_, (R.getD k 0) = z_ := ⟨_, rfl⟩
          rw [hrv] at q0 ht1
          obtain ⟨eb, heb⟩ : ∃ b, (rv == xr) = b := ⟨_, rfl⟩
          rw [heb] at ht1
          obtain ⟨tb, htb⟩ : ∃ b, decide (xr ∈ R.take k) = b := ⟨_, rfl⟩
          rw [htb] at ht1 ⊢
          replace ht1 := Lib.hid ht1
          replace hbz := Lib.hid hbz
          clear hrv htb
          cases tb with
          | true =>
            go_wp2_with fail
            go_quiet (fail)
            go_wp2_with fail
            go_roundw
            case rel => exact ⟨k + 1, by omega, by go_num, by rw [ht1.out]; rfl, hbz.out.drn _⟩
            case measure => simp [intOf] <;> omega
          | false =>
            go_wp2_with fail
            go_quiet (fail)
            go_wp2_with fail
            go_roundw
            case rel => exact ⟨k + 1, by omega, by go_num, by rw [ht1.out]; rfl, hbz.out.drn _⟩
            case measure => simp [intOf] <;> omega
        · obtain rfl : nr = k := by omega
          rw [hTa.out]
          have hbt := hb8.out.tr hbz
          have CE1 := CE.out _ hbt
          have hw8 := hbz
          have hX9 := hX8.out
          have hrt' : decide (xr ∈ R) = trx := by
            cases trx with
            | true => exact decide_eq_true (hrt.out.1 rfl)
            | false => exact decide_eq_false (fun h => by have := hrt.out.2 h; cases this)
          rw [hrt']
          replace hbt := Lib.hid hbt
          replace CE1 := Lib.hid CE1
          clear hrt' hTa hTk
          cases trx with
          | true =>
            have CE1 := CE1.out
            simp only [if_true] at CE1
            replace CE1 := Lib.hid CE1
            go_wp2_with fail
            first | with_reducible refine (CE1.out).mono ?_ | refine (CE1.out).mono ?_
            rintro e w9 ⟨rfl, hb9⟩
            have hb9' := hbt.out.tr hb9
            have hX10 := blk_bl hX.out hb9'
            obtain ⟨y0, y1, y2, y3, y4⟩ := five hX10
            replace hb9' := Lib.hid hb9'
            clear CE1
            go_wp2_with fail
            clear y0 y1 y2 y3 y4
            go_loopw [22] (fun i wz => ∃ k : Nat, k ≤ N ∧ i = I k ∧ Bl w9 wz) (fun i _ => N - (intOf i).toNat)
            case atStart => exact ⟨0, by omega, rfl, Bl.rfl' _⟩
            case round =>
              obtain ⟨k, hk, rfl, hbz⟩ := hrel
              have hbt2 := hb9'.out.tr hbz
              by_cases hlt : k < N
              · have hbd := hbt2.dr
                have hRGd := hRG.out.bl hbd
                have hX11 := blk_bl hX.out hbd
                have hcel := fun w' (hb : Bl w7 w') => ((hRG.out.bl hb).c0 cB_len c0 k (by rw [hN.out]; exact hlt)).2
                have hye := fun w' (hb : Bl w7 w') => (five (blk_bl hX.out hb)).1
                have hCk := fun w' hb => hCh.out w' hb k hlt
                have hDk := fun w' hb => hDh.out w' hb k hlt
                have hEk := hEq.out k
                obtain ⟨z, hz⟩ : ∃ z, G.getD k c0 = z := ⟨_, rfl⟩
                simp only [hz] at hcel hCk hDk hEk
                obtain ⟨zs, zr, zv, zf, zt⟩ := z
                have hS : ∀ w', Bl w7 w' → w'.cell? ⟨gG, k * 5, none⟩ = some (I zs) ∧ w'.cell? ⟨gG, k * 5 + 1, none⟩ = some (I zr) ∧ w'.cell? ⟨gG, k * 5 + 2, none⟩ = some (I zv) ∧ w'.cell? ⟨gG, k * 5 + 3, none⟩ = some (I zf) ∧ w'.cell? ⟨gG, k * 5 + 4, none⟩ = some (I zt) ∧ w'.cell? ⟨y, 0, none⟩ = some (I xs) := fun w' hb =>
                  ⟨hcel w' hb 0 (by decide), hcel w' hb 1 (by decide), hcel w' hb 2 (by decide), hcel w' hb 3 (by decide), hcel w' hb 4 (by decide), hye w' hb⟩
                replace hbd := Lib.hid hbd
                replace hS := Lib.hid hS
                replace hCk := Lib.hid hCk
                replace hDk := Lib.hid hDk
                replace hEk := Lib.hid hEk
                replace hbz := Lib.hid hbz
                clear hRGd hX11 hcel hye hz hbt2
                go_wp2_with fail
                refine wp_region_held_drew (S := fun w' => w'.cell? ⟨gG, k * 5, none⟩ = some (I zs) ∧ w'.cell? ⟨gG, k * 5 + 1, none⟩ = some (I zr) ∧ w'.cell? ⟨gG, k * 5 + 2, none⟩ = some (I zv) ∧ w'.cell? ⟨gG, k * 5 + 3, none⟩ = some (I zf) ∧ w'.cell? ⟨gG, k * 5 + 4, none⟩ = some (I zt) ∧ w'.cell? ⟨y, 0, none⟩ = some (I xs)) (by kernel_rfl) ?_ (fun hHeld => ?_)
                · exact hS.out _ hbd.out
                by_cases hzx : zs = xs
                · have zb : (zs != xs) = false := by rw [hzx]; simp
                  have zb2 : (zs == xs) = true := by rw [hzx]; simp
                  replace hzx := Lib.hid hzx
                  refine wpAnyH_take (i := 0) (v := ?v0_173) rfl (by kernel_rfl) (by kernel_rfl) (by kernel_rfl) (fun _ _ _ h => h) (Or.inl ⟨by rfl, ?y0_173⟩) hHeld ?r0_173
                  case y0_173 => (intro w hSw; (try dsimp only at hSw); go_split_ands; go_simp; try with_reducible rfl)
                  try simp only [List.getElem_toArray, List.getElem_cons_succ, List.getElem_cons_zero, Act.put, List.setIfInBounds_toArray, List.set_cons_zero, List.set_cons_succ]
                  refine wpAnyH_take (i := 1) (v := ?v1_174) rfl (by kernel_rfl) (by kernel_rfl) (by kernel_rfl) (fun _ _ _ h => h) (Or.inl ⟨by rfl, ?y1_174⟩) hHeld ?r1_174
                  case y1_174 => (intro w hSw; (try dsimp only at hSw); go_split_ands; go_simp; try with_reducible rfl)
                  try simp only [List.getElem_toArray, List.getElem_cons_succ, List.getElem_cons_zero, Act.put, List.setIfInBounds_toArray, List.set_cons_zero, List.set_cons_succ]
                  refine wpAnyH_take (i := 2) (v := ?v2_175) rfl (by kernel_rfl) (by kernel_rfl) (by kernel_rfl) (fun _ _ _ h => h) (Or.inl ⟨by rfl, ?y2_175⟩) hHeld ?r2_175
                  case y2_175 => (intro w hSw; (try dsimp only at hSw); go_split_ands; go_simp; try with_reducible rfl)
                  try simp only [List.getElem_toArray, List.getElem_cons_succ, List.getElem_cons_zero, Act.put, List.setIfInBounds_toArray, List.set_cons_zero, List.set_cons_succ]
                  refine wpAnyH_take (i := 3) (v := ?v3_176) rfl (by kernel_rfl) (by kernel_rfl) (by kernel_rfl) (fun _ _ _ h => h) (Or.inl ⟨by rfl, ?y3_176⟩) hHeld ?r3_176
                  case y3_176 => (intro w hSw; (try dsimp only at hSw); go_split_ands; go_simp; try with_reducible rfl)
                  try simp only [List.getElem_toArray, List.getElem_cons_succ, List.getElem_cons_zero, Act.put, List.setIfInBounds_toArray, List.set_cons_zero, List.set_cons_succ]
                  refine wpAnyH_take (i := 4) (v := ?v4_177) rfl (by kernel_rfl) (by kernel_rfl) (by kernel_rfl) (fun _ _ _ h => h) (Or.inl ⟨by rfl, ?y4_177⟩) hHeld ?r4_177
                  case y4_177 => (intro w hSw; (try dsimp only at hSw); go_split_ands; go_simp; try with_reducible rfl)
                  try simp only [List.getElem_toArray, List.getElem_cons_succ, List.getElem_cons_zero, Act.put, List.setIfInBounds_toArray, List.set_cons_zero, List.set_cons_succ]
                  refine wpAnyH_take (i := 5) (v := ?v5_178) rfl (by kernel_rfl) (by kernel_rfl) (by kernel_rfl) (fun _ _ _ h => h) (Or.inl ⟨by rfl, ?y5_178⟩) hHeld ?r5_178
                  case y5_178 => (intro w hSw; (try dsimp only at hSw); go_split_ands; go_simp; try with_reducible rfl)
                  try simp only [List.getElem_toArray, List.getElem_cons_succ, List.getElem_cons_zero, Act.put, List.setIfInBounds_toArray, List.set_cons_zero, List.set_cons_succ]
                  refine wpAnyH_take (i := 6) (v := ?v6_179) rfl (by kernel_rfl) (by kernel_rfl) (by kernel_rfl) (fun _ _ _ h => h) (Or.inl ⟨by rfl, ?y6_179⟩) hHeld ?r6_179
                  case y6_179 => (intro w hSw; (try dsimp only at hSw); go_split_ands; go_simp; try with_reducible rfl)
                  try simp only [List.getElem_toArray, List.getElem_cons_succ, List.getElem_cons_zero, Act.put, List.setIfInBounds_toArray, List.set_cons_zero, List.set_cons_succ]
                  refine wpAnyH_take (i := 7) (v := ?v7_180) rfl (by kernel_rfl) (by kernel_rfl) (by kernel_rfl) (fun _ _ _ h => h) (Or.inl ⟨by rfl, ?y7_180⟩) hHeld ?r7_180
                  case y7_180 => (intro w hSw; (try dsimp only at hSw); go_split_ands; go_simp; try with_reducible rfl)
                  try simp only [List.getElem_toArray, List.getElem_cons_succ, List.getElem_cons_zero, Act.put, List.setIfInBounds_toArray, List.set_cons_zero, List.set_cons_succ]
                  refine wpAnyH_take (i := 8) (v := ?v8_181) rfl (by kernel_rfl) (by kernel_rfl) (by kernel_rfl) (fun _ _ _ h => h) (Or.inl ⟨by rfl, ?y8_181⟩) hHeld ?r8_181
                  case y8_181 => (intro w hSw; (try dsimp only at hSw); go_split_ands; go_simp; try with_reducible rfl)
                  try simp only [List.getElem_toArray, List.getElem_cons_succ, List.getElem_cons_zero, Act.put, List.setIfInBounds_toArray, List.set_cons_zero, List.set_cons_succ]
                  refine wpAnyH_take (i := 9) (v := undef) rfl (by kernel_rfl) (by kernel_rfl) (by kernel_rfl) (fun _ _ _ h => h) (Or.inr ⟨by rfl, rfl⟩) hHeld ?_
                  try simp only [List.getElem_toArray, List.getElem_cons_succ, List.getElem_cons_zero, Act.put, List.setIfInBounds_toArray, List.set_cons_zero, List.set_cons_succ]
                  refine wpAnyH_take (i := 10) (v := undef) rfl (by kernel_rfl) (by kernel_rfl) (by kernel_rfl) (fun _ _ _ h => h) (Or.inr ⟨by rfl, rfl⟩) hHeld ?_
                  try simp only [List.getElem_toArray, List.getElem_cons_succ, List.getElem_cons_zero, Act.put, List.setIfInBounds_toArray, List.set_cons_zero, List.set_cons_succ]
                  refine wpAnyH_take (i := 11) (v := undef) rfl (by kernel_rfl) (by kernel_rfl) (by kernel_rfl) (fun _ _ _ h => h) (Or.inr ⟨by rfl, rfl⟩) hHeld ?_
                  try simp only [List.getElem_toArray, List.getElem_cons_succ, List.getElem_cons_zero, Act.put, List.setIfInBounds_toArray, List.set_cons_zero, List.set_cons_succ]
                  refine wpAnyH_take (i := 12) (v := undef) rfl (by kernel_rfl) (by kernel_rfl) (by kernel_rfl) (fun _ _ _ h => h) (Or.inr ⟨by rfl, rfl⟩) hHeld ?_
                  try simp only [List.getElem_toArray, List.getElem_cons_succ, List.getElem_cons_zero, Act.put, List.setIfInBounds_toArray, List.set_cons_zero, List.set_cons_succ]
                  refine wpAnyH_take (i := 13) (v := undef) rfl (by kernel_rfl) (by kernel_rfl) (by kernel_rfl) (fun _ _ _ h => h) (Or.inr ⟨by rfl, rfl⟩) hHeld ?_
                  try simp only [List.getElem_toArray, List.getElem_cons_succ, List.getElem_cons_zero, Act.put, List.setIfInBounds_toArray, List.set_cons_zero, List.set_cons_succ]
                  refine wpAnyH_take (i := 14) (v := undef) rfl (by kernel_rfl) (by kernel_rfl) (by kernel_rfl) (fun _ _ _ h => h) (Or.inr ⟨by rfl, rfl⟩) hHeld ?_
                  try simp only [List.getElem_toArray, List.getElem_cons_succ, List.getElem_cons_zero, Act.put, List.setIfInBounds_toArray, List.set_cons_zero, List.set_cons_succ]
                  refine wpAnyH_take (i := 15) (v := undef) rfl (by kernel_rfl) (by kernel_rfl) (by kernel_rfl) (fun _ _ _ h => h) (Or.inr ⟨by rfl, rfl⟩) hHeld ?_
                  try simp only [List.getElem_toArray, List.getElem_cons_succ, List.getElem_cons_zero, Act.put, List.setIfInBounds_toArray, List.set_cons_zero, List.set_cons_succ]
                  refine wpAnyH_take (i := 16) (v := undef) rfl (by kernel_rfl) (by kernel_rfl) (by kernel_rfl) (fun _ _ _ h => h) (Or.inr ⟨by rfl, rfl⟩) hHeld ?_
                  try simp only [List.getElem_toArray, List.getElem_cons_succ, List.getElem_cons_zero, Act.put, List.setIfInBounds_toArray, List.set_cons_zero, List.set_cons_succ]
                  refine wpAnyH_take (i := 17) (v := undef) rfl (by kernel_rfl) (by kernel_rfl) (by kernel_rfl) (fun _ _ _ h => h) (Or.inr ⟨by rfl, rfl⟩) hHeld ?_
                  try simp only [List.getElem_toArray, List.getElem_cons_succ, List.getElem_cons_zero, Act.put, List.setIfInBounds_toArray, List.set_cons_zero, List.set_cons_succ]
                  refine wpAnyH_take (i := 18) (v := undef) rfl (by kernel_rfl) (by kernel_rfl) (by kernel_rfl) (fun _ _ _ h => h) (Or.inr ⟨by rfl, rfl⟩) hHeld ?_
                  try simp only [List.getElem_toArray, List.getElem_cons_succ, List.getElem_cons_zero, Act.put, List.setIfInBounds_toArray, List.set_cons_zero, List.set_cons_succ]
                  refine wpAnyH_take (i := 19) (v := undef) rfl (by kernel_rfl) (by kernel_rfl) (by kernel_rfl) (fun _ _ _ h => h) (Or.inr ⟨by rfl, rfl⟩) hHeld ?_
                  try simp only [List.getElem_toArray, List.getElem_cons_succ, List.getElem_cons_zero, Act.put, List.setIfInBounds_toArray, List.set_cons_zero, List.set_cons_succ]
                  refine wpAnyH_take (i := 20) (v := undef) rfl (by kernel_rfl) (by kernel_rfl) (by kernel_rfl) (fun _ _ _ h => h) (Or.inr ⟨by rfl, rfl⟩) hHeld ?_
                  try simp only [List.getElem_toArray, List.getElem_cons_succ, List.getElem_cons_zero, Act.put, List.setIfInBounds_toArray, List.set_cons_zero, List.set_cons_succ]
                  refine wpAnyH_take (i := 21) (v := undef) rfl (by kernel_rfl) (by kernel_rfl) (by kernel_rfl) (fun _ _ _ h => h) (Or.inr ⟨by rfl, rfl⟩) hHeld ?_
                  try simp only [List.getElem_toArray, List.getElem_cons_succ, List.getElem_cons_zero, Act.put, List.setIfInBounds_toArray, List.set_cons_zero, List.set_cons_succ]
                  refine wpAnyH_take (i := 22) (v := undef) rfl (by kernel_rfl) (by kernel_rfl) (by kernel_rfl) (fun _ _ _ h => h) (Or.inr ⟨by rfl, rfl⟩) hHeld ?_
                  try simp only [List.getElem_toArray, List.getElem_cons_succ, List.getElem_cons_zero, Act.put, List.setIfInBounds_toArray, List.set_cons_zero, List.set_cons_succ]
                  refine wpAnyH_take (i := 23) (v := undef) rfl (by kernel_rfl) (by kernel_rfl) (by kernel_rfl) (fun _ _ _ h => h) (Or.inr ⟨by rfl, rfl⟩) hHeld ?_
                  try simp only [List.getElem_toArray, List.getElem_cons_succ, List.getElem_cons_zero, Act.put, List.setIfInBounds_toArray, List.set_cons_zero, List.set_cons_succ]
                  refine wpAnyH_take (i := 24) (v := undef) rfl (by kernel_rfl) (by kernel_rfl) (by kernel_rfl) (fun _ _ _ h => h) (Or.inr ⟨by rfl, rfl⟩) hHeld ?_
                  try simp only [List.getElem_toArray, List.getElem_cons_succ, List.getElem_cons_zero, Act.put, List.setIfInBounds_toArray, List.set_cons_zero, List.set_cons_succ]
                  refine wpAnyH_take (i := 25) (v := undef) rfl (by kernel_rfl) (by kernel_rfl) (by kernel_rfl) (fun _ _ _ h => h) (Or.inr ⟨by rfl, rfl⟩) hHeld ?_
                  try simp only [List.getElem_toArray, List.getElem_cons_succ, List.getElem_cons_zero, Act.put, List.setIfInBounds_toArray, List.set_cons_zero, List.set_cons_succ]
                  refine wpAnyH_take (i := 26) (v := undef) rfl (by kernel_rfl) (by kernel_rfl) (by kernel_rfl) (fun _ _ _ h => h) (Or.inr ⟨by rfl, rfl⟩) hHeld ?_
                  try simp only [List.getElem_toArray, List.getElem_cons_succ, List.getElem_cons_zero, Act.put, List.setIfInBounds_toArray, List.set_cons_zero, List.set_cons_succ]
                  refine wpAnyH_take (i := 27) (v := undef) rfl (by kernel_rfl) (by kernel_rfl) (by kernel_rfl) (fun _ _ _ h => h) (Or.inr ⟨by rfl, rfl⟩) hHeld ?_
                  try simp only [List.getElem_toArray, List.getElem_cons_succ, List.getElem_cons_zero, Act.put, List.setIfInBounds_toArray, List.set_cons_zero, List.set_cons_succ]
                  refine wpAnyH_take (i := 28) (v := undef) rfl (by kernel_rfl) (by kernel_rfl) (by kernel_rfl) (fun _ _ _ h => h) (Or.inr ⟨by rfl, rfl⟩) hHeld ?_
                  try simp only [List.getElem_toArray, List.getElem_cons_succ, List.getElem_cons_zero, Act.put, List.setIfInBounds_toArray, List.set_cons_zero, List.set_cons_succ]
                  refine wpAnyH_take (i := 29) (v := undef) rfl (by kernel_rfl) (by kernel_rfl) (by kernel_rfl) (fun _ _ _ h => h) (Or.inr ⟨by rfl, rfl⟩) hHeld ?_
                  try simp only [List.getElem_toArray, List.getElem_cons_succ, List.getElem_cons_zero, Act.put, List.setIfInBounds_toArray, List.set_cons_zero, List.set_cons_succ]
                  refine wpAnyH_take (i := 30) (v := undef) rfl (by kernel_rfl) (by kernel_rfl) (by kernel_rfl) (fun _ _ _ h => h) (Or.inr ⟨by rfl, rfl⟩) hHeld ?_
                  try simp only [List.getElem_toArray, List.getElem_cons_succ, List.getElem_cons_zero, Act.put, List.setIfInBounds_toArray, List.set_cons_zero, List.set_cons_succ]
                  refine wpAnyH_take (i := 31) (v := undef) rfl (by kernel_rfl) (by kernel_rfl) (by kernel_rfl) (fun _ _ _ h => h) (Or.inr ⟨by rfl, rfl⟩) hHeld ?_
                  try simp only [List.getElem_toArray, List.getElem_cons_succ, List.getElem_cons_zero, Act.put, List.setIfInBounds_toArray, List.set_cons_zero, List.set_cons_succ]
                  refine wpAnyH_take (i := 32) (v := undef) rfl (by kernel_rfl) (by kernel_rfl) (by kernel_rfl) (fun _ _ _ h => h) (Or.inr ⟨by rfl, rfl⟩) hHeld ?_
                  try simp only [List.getElem_toArray, List.getElem_cons_succ, List.getElem_cons_zero, Act.put, List.setIfInBounds_toArray, List.set_cons_zero, List.set_cons_succ]
                  refine wpAnyH_take (i := 33) (v := undef) rfl (by kernel_rfl) (by kernel_rfl) (by kernel_rfl) (fun _ _ _ h => h) (Or.inr ⟨by rfl, rfl⟩) hHeld ?_
                  try simp only [List.getElem_toArray, List.getElem_cons_succ, List.getElem_cons_zero, Act.put, List.setIfInBounds_toArray, List.set_cons_zero, List.set_cons_succ]
                  refine wpAnyH_take (i := 34) (v := ?v34_182) rfl (by kernel_rfl) (by kernel_rfl) (by kernel_rfl) (fun _ _ _ h => h) (Or.inl ⟨by rfl, ?y34_182⟩) hHeld ?r34_182
                  case y34_182 => (intro w hSw; (try dsimp only at hSw); go_split_ands; go_simp; try with_reducible rfl)
                  try simp only [List.getElem_toArray, List.getElem_cons_succ, List.getElem_cons_zero, Act.put, List.setIfInBounds_toArray, List.set_cons_zero, List.set_cons_succ]
                  refine wpAnyH_done (by kernel_rfl) ?_ _
                  go_wp2_with fail
                  go_roundw
                  case rel => exact ⟨k + 1, by omega, by go_num, hbz.out.dr⟩
                  case measure => simp [intOf] <;> omega
                · have zb : (zs != xs) = true := by simp [hzx]
                  have zb2 : (zs == xs) = false := beq_eq_false_iff_ne.2 hzx
                  have hEe := hEk.out hzx
                  try simp only at hEe
                  have hCk := hCk.out
                  simp only [hEe] at hCk
                  obtain ⟨ee, hee⟩ : ∃ e, chkE U G S ⟨zs, zr, zv, zf, zt⟩ zv at_ = e := ⟨_, rfl⟩
                  have hDk := hDk.out
                  simp only [hee] at hCk hDk
                  replace hzx := Lib.hid hzx
                  replace hCk := Lib.hid hCk
                  replace hDk := Lib.hid hDk
                  clear hEe hee
                  refine wpAnyH_take (i := 0) (v := ?v0_183) rfl (by kernel_rfl) (by kernel_rfl) (by kernel_rfl) (fun _ _ _ h => h) (Or.inl ⟨by rfl, ?y0_183⟩) hHeld ?r0_183
                  case y0_183 => (intro w hSw; (try dsimp only at hSw); go_split_ands; go_simp; try with_reducible rfl)
                  try simp only [List.getElem_toArray, List.getElem_cons_succ, List.getElem_cons_zero, Act.put, List.setIfInBounds_toArray, List.set_cons_zero, List.set_cons_succ]
                  refine wpAnyH_take (i := 1) (v := ?v1_184) rfl (by kernel_rfl) (by kernel_rfl) (by kernel_rfl) (fun _ _ _ h => h) (Or.inl ⟨by rfl, ?y1_184⟩) hHeld ?r1_184
                  case y1_184 => (intro w hSw; (try dsimp only at hSw); go_split_ands; go_simp; try with_reducible rfl)
                  try simp only [List.getElem_toArray, List.getElem_cons_succ, List.getElem_cons_zero, Act.put, List.setIfInBounds_toArray, List.set_cons_zero, List.set_cons_succ]
                  refine wpAnyH_take (i := 2) (v := ?v2_185) rfl (by kernel_rfl) (by kernel_rfl) (by kernel_rfl) (fun _ _ _ h => h) (Or.inl ⟨by rfl, ?y2_185⟩) hHeld ?r2_185
                  case y2_185 => (intro w hSw; (try dsimp only at hSw); go_split_ands; go_simp; try with_reducible rfl)
                  try simp only [List.getElem_toArray, List.getElem_cons_succ, List.getElem_cons_zero, Act.put, List.setIfInBounds_toArray, List.set_cons_zero, List.set_cons_succ]
                  refine wpAnyH_take (i := 3) (v := ?v3_186) rfl (by kernel_rfl) (by kernel_rfl) (by kernel_rfl) (fun _ _ _ h => h) (Or.inl ⟨by rfl, ?y3_186⟩) hHeld ?r3_186
                  case y3_186 => (intro w hSw; (try dsimp only at hSw); go_split_ands; go_simp; try with_reducible rfl)
                  try simp only [List.getElem_toArray, List.getElem_cons_succ, List.getElem_cons_zero, Act.put, List.setIfInBounds_toArray, List.set_cons_zero, List.set_cons_succ]
                  refine wpAnyH_take (i := 4) (v := ?v4_187) rfl (by kernel_rfl) (by kernel_rfl) (by kernel_rfl) (fun _ _ _ h => h) (Or.inl ⟨by rfl, ?y4_187⟩) hHeld ?r4_187
                  case y4_187 => (intro w hSw; (try dsimp only at hSw); go_split_ands; go_simp; try with_reducible rfl)
                  try simp only [List.getElem_toArray, List.getElem_cons_succ, List.getElem_cons_zero, Act.put, List.setIfInBounds_toArray, List.set_cons_zero, List.set_cons_succ]
                  refine wpAnyH_take (i := 5) (v := ?v5_188) rfl (by kernel_rfl) (by kernel_rfl) (by kernel_rfl) (fun _ _ _ h => h) (Or.inl ⟨by rfl, ?y5_188⟩) hHeld ?r5_188
                  case y5_188 => (intro w hSw; (try dsimp only at hSw); go_split_ands; go_simp; try with_reducible rfl)
                  try simp only [List.getElem_toArray, List.getElem_cons_succ, List.getElem_cons_zero, Act.put, List.setIfInBounds_toArray, List.set_cons_zero, List.set_cons_succ]
                  refine wpAnyH_take (i := 6) (v := ?v6_189) rfl (by kernel_rfl) (by kernel_rfl) (by kernel_rfl) (fun _ _ _ h => h) (Or.inl ⟨by rfl, ?y6_189⟩) hHeld ?r6_189
                  case y6_189 => (intro w hSw; (try dsimp only at hSw); go_split_ands; go_simp; try with_reducible rfl)
                  try simp only [List.getElem_toArray, List.getElem_cons_succ, List.getElem_cons_zero, Act.put, List.setIfInBounds_toArray, List.set_cons_zero, List.set_cons_succ]
                  refine wpAnyH_take (i := 7) (v := ?v7_190) rfl (by kernel_rfl) (by kernel_rfl) (by kernel_rfl) (fun _ _ _ h => h) (Or.inl ⟨by rfl, ?y7_190⟩) hHeld ?r7_190
                  case y7_190 => (intro w hSw; (try dsimp only at hSw); go_split_ands; go_simp; try with_reducible rfl)
                  try simp only [List.getElem_toArray, List.getElem_cons_succ, List.getElem_cons_zero, Act.put, List.setIfInBounds_toArray, List.set_cons_zero, List.set_cons_succ]
                  refine wpAnyH_take (i := 8) (v := ?v8_191) rfl (by kernel_rfl) (by kernel_rfl) (by kernel_rfl) (fun _ _ _ h => h) (Or.inl ⟨by rfl, ?y8_191⟩) hHeld ?r8_191
                  case y8_191 => (intro w hSw; (try dsimp only at hSw); go_split_ands; go_simp; try with_reducible rfl)
                  try simp only [List.getElem_toArray, List.getElem_cons_succ, List.getElem_cons_zero, Act.put, List.setIfInBounds_toArray, List.set_cons_zero, List.set_cons_succ]
                  refine wpAnyH_take (i := 9) (v := ?v9_192) rfl (by kernel_rfl) (by kernel_rfl) (by kernel_rfl) (fun _ _ _ h => h) (Or.inl ⟨by rfl, ?y9_192⟩) hHeld ?r9_192
                  case y9_192 => (intro w hSw; (try dsimp only at hSw); go_split_ands; go_simp; try with_reducible rfl)
                  try simp only [List.getElem_toArray, List.getElem_cons_succ, List.getElem_cons_zero, Act.put, List.setIfInBounds_toArray, List.set_cons_zero, List.set_cons_succ]
                  refine wpAnyH_take (i := 10) (v := ?v10_193) rfl (by kernel_rfl) (by kernel_rfl) (by kernel_rfl) (fun _ _ _ h => h) (Or.inl ⟨by rfl, ?y10_193⟩) hHeld ?r10_193
                  case y10_193 => (intro w hSw; (try dsimp only at hSw); go_split_ands; go_simp; try with_reducible rfl)
                  try simp only [List.getElem_toArray, List.getElem_cons_succ, List.getElem_cons_zero, Act.put, List.setIfInBounds_toArray, List.set_cons_zero, List.set_cons_succ]
                  refine wpAnyH_take (i := 11) (v := ?v11_194) rfl (by kernel_rfl) (by kernel_rfl) (by kernel_rfl) (fun _ _ _ h => h) (Or.inl ⟨by rfl, ?y11_194⟩) hHeld ?r11_194
                  case y11_194 => (intro w hSw; (try dsimp only at hSw); go_split_ands; go_simp; try with_reducible rfl)
                  try simp only [List.getElem_toArray, List.getElem_cons_succ, List.getElem_cons_zero, Act.put, List.setIfInBounds_toArray, List.set_cons_zero, List.set_cons_succ]
                  refine wpAnyH_take (i := 12) (v := ?v12_195) rfl (by kernel_rfl) (by kernel_rfl) (by kernel_rfl) (fun _ _ _ h => h) (Or.inl ⟨by rfl, ?y12_195⟩) hHeld ?r12_195
                  case y12_195 => (intro w hSw; (try dsimp only at hSw); go_split_ands; go_simp; try with_reducible rfl)
                  try simp only [List.getElem_toArray, List.getElem_cons_succ, List.getElem_cons_zero, Act.put, List.setIfInBounds_toArray, List.set_cons_zero, List.set_cons_succ]
                  refine wpAnyH_take (i := 13) (v := ?v13_196) rfl (by kernel_rfl) (by kernel_rfl) (by kernel_rfl) (fun _ _ _ h => h) (Or.inl ⟨by rfl, ?y13_196⟩) hHeld ?r13_196
                  case y13_196 => (intro w hSw; (try dsimp only at hSw); go_split_ands; go_simp; try with_reducible rfl)
                  try simp only [List.getElem_toArray, List.getElem_cons_succ, List.getElem_cons_zero, Act.put, List.setIfInBounds_toArray, List.set_cons_zero, List.set_cons_succ]
                  refine wpAnyH_take (i := 14) (v := ?v14_197) rfl (by kernel_rfl) (by kernel_rfl) (by kernel_rfl) (fun _ _ _ h => h) (Or.inl ⟨by rfl, ?y14_197⟩) hHeld ?r14_197
                  case y14_197 => (intro w hSw; (try dsimp only at hSw); go_split_ands; go_simp; try with_reducible rfl)
                  try simp only [List.getElem_toArray, List.getElem_cons_succ, List.getElem_cons_zero, Act.put, List.setIfInBounds_toArray, List.set_cons_zero, List.set_cons_succ]
                  refine wpAnyH_take (i := 15) (v := ?v15_198) rfl (by kernel_rfl) (by kernel_rfl) (by kernel_rfl) (fun _ _ _ h => h) (Or.inl ⟨by rfl, ?y15_198⟩) hHeld ?r15_198
                  case y15_198 => (intro w hSw; (try dsimp only at hSw); go_split_ands; go_simp; try with_reducible rfl)
                  try simp only [List.getElem_toArray, List.getElem_cons_succ, List.getElem_cons_zero, Act.put, List.setIfInBounds_toArray, List.set_cons_zero, List.set_cons_succ]
                  refine wpAnyH_take (i := 16) (v := ?v16_199) rfl (by kernel_rfl) (by kernel_rfl) (by kernel_rfl) (fun _ _ _ h => h) (Or.inl ⟨by rfl, ?y16_199⟩) hHeld ?r16_199
                  case y16_199 => (intro w hSw; (try dsimp only at hSw); go_split_ands; go_simp; try with_reducible rfl)
                  try simp only [List.getElem_toArray, List.getElem_cons_succ, List.getElem_cons_zero, Act.put, List.setIfInBounds_toArray, List.set_cons_zero, List.set_cons_succ]
                  refine wpAnyH_take (i := 17) (v := ?v17_200) rfl (by kernel_rfl) (by kernel_rfl) (by kernel_rfl) (fun _ _ _ h => h) (Or.inl ⟨by rfl, ?y17_200⟩) hHeld ?r17_200
                  case y17_200 => (intro w hSw; (try dsimp only at hSw); go_split_ands; go_simp; try with_reducible rfl)
                  try simp only [List.getElem_toArray, List.getElem_cons_succ, List.getElem_cons_zero, Act.put, List.setIfInBounds_toArray, List.set_cons_zero, List.set_cons_succ]
                  refine wpAnyH_take (i := 18) (v := ?v18_201) rfl (by kernel_rfl) (by kernel_rfl) (by kernel_rfl) (fun _ _ _ h => h) (Or.inl ⟨by rfl, ?y18_201⟩) hHeld ?r18_201
                  case y18_201 => (intro w hSw; (try dsimp only at hSw); go_split_ands; go_simp; try with_reducible rfl)
                  try simp only [List.getElem_toArray, List.getElem_cons_succ, List.getElem_cons_zero, Act.put, List.setIfInBounds_toArray, List.set_cons_zero, List.set_cons_succ]
                  refine wpAnyH_take (i := 19) (v := ?v19_202) rfl (by kernel_rfl) (by kernel_rfl) (by kernel_rfl) (fun _ _ _ h => h) (Or.inl ⟨by rfl, ?y19_202⟩) hHeld ?r19_202
                  case y19_202 => (intro w hSw; (try dsimp only at hSw); go_split_ands; go_simp; try with_reducible rfl)
                  try simp only [List.getElem_toArray, List.getElem_cons_succ, List.getElem_cons_zero, Act.put, List.setIfInBounds_toArray, List.set_cons_zero, List.set_cons_succ]
                  refine wpAnyH_take (i := 21) (v := ?v21_203) rfl (by kernel_rfl) (by kernel_rfl) (by kernel_rfl) (fun _ _ _ h => h) (Or.inl ⟨by rfl, ?y21_203⟩) hHeld ?r21_203
                  case y21_203 => (intro w hSw; (try dsimp only at hSw); go_split_ands; go_simp; try with_reducible rfl)
                  try simp only [List.getElem_toArray, List.getElem_cons_succ, List.getElem_cons_zero, Act.put, List.setIfInBounds_toArray, List.set_cons_zero, List.set_cons_succ]
                  refine wpAnyH_take (i := 22) (v := ?v22_204) rfl (by kernel_rfl) (by kernel_rfl) (by kernel_rfl) (fun _ _ _ h => h) (Or.inl ⟨by rfl, ?y22_204⟩) hHeld ?r22_204
                  case y22_204 => (intro w hSw; (try dsimp only at hSw); go_split_ands; go_simp; try with_reducible rfl)
                  try simp only [List.getElem_toArray, List.getElem_cons_succ, List.getElem_cons_zero, Act.put, List.setIfInBounds_toArray, List.set_cons_zero, List.set_cons_succ]
                  refine wpAnyH_take (i := 23) (v := ?v23_205) rfl (by kernel_rfl) (by kernel_rfl) (by kernel_rfl) (fun _ _ _ h => h) (Or.inl ⟨by rfl, ?y23_205⟩) hHeld ?r23_205
                  case y23_205 => (intro w hSw; (try dsimp only at hSw); go_split_ands; go_simp; try with_reducible rfl)
                  try simp only [List.getElem_toArray, List.getElem_cons_succ, List.getElem_cons_zero, Act.put, List.setIfInBounds_toArray, List.set_cons_zero, List.set_cons_succ]
                  refine wpAnyH_take (i := 24) (v := ?v24_206) rfl (by kernel_rfl) (by kernel_rfl) (by kernel_rfl) (fun _ _ _ h => h) (Or.inl ⟨by rfl, ?y24_206⟩) hHeld ?r24_206
                  case y24_206 => (intro w hSw; (try dsimp only at hSw); go_split_ands; go_simp; try with_reducible rfl)
                  try simp only [List.getElem_toArray, List.getElem_cons_succ, List.getElem_cons_zero, Act.put, List.setIfInBounds_toArray, List.set_cons_zero, List.set_cons_succ]
                  refine wpAnyH_take (i := 25) (v := ?v25_207) rfl (by kernel_rfl) (by kernel_rfl) (by kernel_rfl) (fun _ _ _ h => h) (Or.inl ⟨by rfl, ?y25_207⟩) hHeld ?r25_207
                  case y25_207 => (intro w hSw; (try dsimp only at hSw); go_split_ands; go_simp; try with_reducible rfl)
                  try simp only [List.getElem_toArray, List.getElem_cons_succ, List.getElem_cons_zero, Act.put, List.setIfInBounds_toArray, List.set_cons_zero, List.set_cons_succ]
                  refine wpAnyH_take (i := 26) (v := ?v26_208) rfl (by kernel_rfl) (by kernel_rfl) (by kernel_rfl) (fun _ _ _ h => h) (Or.inl ⟨by rfl, ?y26_208⟩) hHeld ?r26_208
                  case y26_208 => (intro w hSw; (try dsimp only at hSw); go_split_ands; go_simp; try with_reducible rfl)
                  try simp only [List.getElem_toArray, List.getElem_cons_succ, List.getElem_cons_zero, Act.put, List.setIfInBounds_toArray, List.set_cons_zero, List.set_cons_succ]
                  refine wpAnyH_take (i := 27) (v := ?v27_209) rfl (by kernel_rfl) (by kernel_rfl) (by kernel_rfl) (fun _ _ _ h => h) (Or.inl ⟨by rfl, ?y27_209⟩) hHeld ?r27_209
                  case y27_209 => (intro w hSw; (try dsimp only at hSw); go_split_ands; go_simp; try with_reducible rfl)
                  try simp only [List.getElem_toArray, List.getElem_cons_succ, List.getElem_cons_zero, Act.put, List.setIfInBounds_toArray, List.set_cons_zero, List.set_cons_succ]
                  refine wpAnyH_take (i := 28) (v := ?v28_210) rfl (by kernel_rfl) (by kernel_rfl) (by kernel_rfl) (fun _ _ _ h => h) (Or.inl ⟨by rfl, ?y28_210⟩) hHeld ?r28_210
                  case y28_210 => (intro w hSw; (try dsimp only at hSw); go_split_ands; go_simp; try with_reducible rfl)
                  try simp only [List.getElem_toArray, List.getElem_cons_succ, List.getElem_cons_zero, Act.put, List.setIfInBounds_toArray, List.set_cons_zero, List.set_cons_succ]
                  refine wpAnyH_take (i := 29) (v := ?v29_211) rfl (by kernel_rfl) (by kernel_rfl) (by kernel_rfl) (fun _ _ _ h => h) (Or.inl ⟨by rfl, ?y29_211⟩) hHeld ?r29_211
                  case y29_211 => (intro w hSw; (try dsimp only at hSw); go_split_ands; go_simp; try with_reducible rfl)
                  try simp only [List.getElem_toArray, List.getElem_cons_succ, List.getElem_cons_zero, Act.put, List.setIfInBounds_toArray, List.set_cons_zero, List.set_cons_succ]
                  refine wpAnyH_take (i := 30) (v := ?v30_212) rfl (by kernel_rfl) (by kernel_rfl) (by kernel_rfl) (fun _ _ _ h => h) (Or.inl ⟨by rfl, ?y30_212⟩) hHeld ?r30_212
                  case y30_212 => (intro w hSw; (try dsimp only at hSw); go_split_ands; go_simp; try with_reducible rfl)
                  try simp only [List.getElem_toArray, List.getElem_cons_succ, List.getElem_cons_zero, Act.put, List.setIfInBounds_toArray, List.set_cons_zero, List.set_cons_succ]
                  refine wpAnyH_take (i := 31) (v := ?v31_213) rfl (by kernel_rfl) (by kernel_rfl) (by kernel_rfl) (fun _ _ _ h => h) (Or.inl ⟨by rfl, ?y31_213⟩) hHeld ?r31_213
                  case y31_213 => (intro w hSw; (try dsimp only at hSw); go_split_ands; go_simp; try with_reducible rfl)
                  try simp only [List.getElem_toArray, List.getElem_cons_succ, List.getElem_cons_zero, Act.put, List.setIfInBounds_toArray, List.set_cons_zero, List.set_cons_succ]
                  refine wpAnyH_ready (rs := [20]) (by kernel_rfl) (by simp) ?_
                  refine AllReadyH.cons rfl (fun K hK => ?_) AllReadyH.nil
                  have hHeld' := hHeld
                  try dsimp only at hHeld'
                  go_split_ands
                  go_simp
                  first | with_reducible refine (hCk.out _ hbd.out).mono ?_ | refine (hCk.out _ hbd.out).mono ?_
                  rintro e w11 ⟨rfl, hb11⟩
                  have hbe := Lib.hid (hbd.out.tr hb11)
                  refine hK.out _ _ ?_ (fun hHeld => ?_)
                  · exact hS.out _ hbe.out
                  clear hK K
                  try simp only [List.getElem_toArray, List.getElem_cons_succ, List.getElem_cons_zero, Act.put, List.setIfInBounds_toArray, List.set_cons_zero, List.set_cons_succ]
                  refine wpAnyH_ready (rs := [32]) (by kernel_rfl) (by simp) ?_
                  refine AllReadyH.cons rfl (fun K hK => ?_) AllReadyH.nil
                  have hHeld' := hHeld
                  try dsimp only at hHeld'
                  go_split_ands
                  go_simp
                  first | with_reducible refine (hDk.out _ hbe.out).mono ?_ | refine (hDk.out _ hbe.out).mono ?_
                  rintro e w12 ⟨rfl, hb12⟩
                  have hbf := Lib.hid (hbe.out.tr hb12)
                  have hbz2 := Lib.hid ((hbz.out.dr.tr hb11).tr hb12)
                  refine hK.out _ _ ?_ (fun hHeld => ?_)
                  · exact hS.out _ hbf.out
                  clear hK K
                  try simp only [List.getElem_toArray, List.getElem_cons_succ, List.getElem_cons_zero, Act.put, List.setIfInBounds_toArray, List.set_cons_zero, List.set_cons_succ]
                  refine wpAnyH_take (i := 33) (v := ?v33_214) rfl (by kernel_rfl) (by kernel_rfl) (by kernel_rfl) (fun _ _ _ h => h) (Or.inl ⟨by rfl, ?y33_214⟩) hHeld ?r33_214
                  case y33_214 => (intro w hSw; (try dsimp only at hSw); go_split_ands; go_simp; try with_reducible rfl)
                  try simp only [List.getElem_toArray, List.getElem_cons_succ, List.getElem_cons_zero, Act.put, List.setIfInBounds_toArray, List.set_cons_zero, List.set_cons_succ]
                  refine wpAnyH_take (i := 34) (v := ?v34_215) rfl (by kernel_rfl) (by kernel_rfl) (by kernel_rfl) (fun _ _ _ h => h) (Or.inl ⟨by rfl, ?y34_215⟩) hHeld ?r34_215
                  case y34_215 => (intro w hSw; (try dsimp only at hSw); go_split_ands; go_simp; try with_reducible rfl)
                  try simp only [List.getElem_toArray, List.getElem_cons_succ, List.getElem_cons_zero, Act.put, List.setIfInBounds_toArray, List.set_cons_zero, List.set_cons_succ]
                  refine wpAnyH_done (by kernel_rfl) ?_ _
                  go_wp2_with fail
                  go_roundw
                  case rel => exact ⟨k + 1, by omega, by go_num, hbz2.out⟩
                  case measure => simp [intOf] <;> omega
              · obtain rfl : N = k := by omega
                replace hbt2 := Lib.hid hbt2
                have RT3 := RT2.out _ hbt2.out
                replace RT3 := Lib.hid RT3
                go_wp2_with fail
                first | with_reducible refine (RT3.out).mono ?_ | refine (RT3.out).mono ?_
                rintro e w13 ⟨vs, rfl, hSo, hb13⟩
                have hSi := OwnB.ints hSo
                have hRi2 : IntsAt w13 (.slice aR nr cR) R := by
                  exact hRi.out.below (((hw8.tr hb9).tr hbz).tr hb13)
                have hml : R.length ≤ maxLen := by rw [hnr.out]; unfold maxLen; omega
                have SM := same_any R R (.slice aR nr cR) vs w13 hRi2 hSi hml hml
                rw [show decide (R = R) = true from decide_eq_true rfl] at SM
                have hbh := hb5.out.tr (hbt2.out.tr hb13)
                replace SM := Lib.hid SM
                replace hbh := Lib.hid hbh
                clear RT3 hSo hSi hRi2
                go_wp2_with fail
                first | with_reducible refine (SM.out).mono ?_ | refine (SM.out).mono ?_
                rintro e w14 ⟨rfl, hb14⟩
                go_wp2_with fail
                first | with_reducible refine (LV.out _).mono ?_ | refine (LV.out _).mono ?_
                rintro e w15 ⟨rfl, hb15⟩
                have hbi := (hbh.out.tr hb14).tr hb15
                go_wp2_with fail
                go_ret
                exact ⟨rfl, hbi⟩
          | false =>
            have CE1 := CE1.out
            simp only [Bool.false_eq_true, if_false] at CE1
            replace CE1 := Lib.hid CE1
            go_wp2_with fail
            first | with_reducible refine (CE1.out).mono ?_ | refine (CE1.out).mono ?_
            rintro e w9 ⟨rfl, hb9⟩
            have hb9' := hbt.out.tr hb9
            have hX10 := blk_bl hX.out hb9'
            obtain ⟨y0, y1, y2, y3, y4⟩ := five hX10
            replace hb9' := Lib.hid hb9'
            clear CE1
            go_wp2_with fail
            clear y0 y1 y2 y3 y4
            go_loopw [22] (fun i wz => ∃ k : Nat, k ≤ N ∧ i = I k ∧ Bl w9 wz) (fun i _ => N - (intOf i).toNat)
            case atStart => exact ⟨0, by omega, rfl, Bl.rfl' _⟩
            case round =>
              obtain ⟨k, hk, rfl, hbz⟩ := hrel
              have hbt2 := hb9'.out.tr hbz
              by_cases hlt : k < N
              · have hbd := hbt2.dr
                have hRGd := hRG.out.bl hbd
                have hX11 := blk_bl hX.out hbd
                have hcel := fun w' (hb : Bl w7 w') => ((hRG.out.bl hb).c0 cB_len c0 k (by rw [hN.out]; exact hlt)).2
                have hye := fun w' (hb : Bl w7 w') => (five (blk_bl hX.out hb)).1
                have hCk := fun w' hb => hCh.out w' hb k hlt
                have hDk := fun w' hb => hDh.out w' hb k hlt
                have hEk := hEq.out k
                obtain ⟨z, hz⟩ : ∃ z, G.getD k c0 = z := ⟨_, rfl⟩
                simp only [hz] at hcel hCk hDk hEk
                obtain ⟨zs, zr, zv, zf, zt⟩ := z
                have hS : ∀ w', Bl w7 w' → w'.cell? ⟨gG, k * 5, none⟩ = some (I zs) ∧ w'.cell? ⟨gG, k * 5 + 1, none⟩ = some (I zr) ∧ w'.cell? ⟨gG, k * 5 + 2, none⟩ = some (I zv) ∧ w'.cell? ⟨gG, k * 5 + 3, none⟩ = some (I zf) ∧ w'.cell? ⟨gG, k * 5 + 4, none⟩ = some (I zt) ∧ w'.cell? ⟨y, 0, none⟩ = some (I xs) := fun w' hb =>
                  ⟨hcel w' hb 0 (by decide), hcel w' hb 1 (by decide), hcel w' hb 2 (by decide), hcel w' hb 3 (by decide), hcel w' hb 4 (by decide), hye w' hb⟩
                replace hbd := Lib.hid hbd
                replace hS := Lib.hid hS
                replace hCk := Lib.hid hCk
                replace hDk := Lib.hid hDk
                replace hEk := Lib.hid hEk
                replace hbz := Lib.hid hbz
                clear hRGd hX11 hcel hye hz hbt2
                go_wp2_with fail
                refine wp_region_held_drew (S := fun w' => w'.cell? ⟨gG, k * 5, none⟩ = some (I zs) ∧ w'.cell? ⟨gG, k * 5 + 1, none⟩ = some (I zr) ∧ w'.cell? ⟨gG, k * 5 + 2, none⟩ = some (I zv) ∧ w'.cell? ⟨gG, k * 5 + 3, none⟩ = some (I zf) ∧ w'.cell? ⟨gG, k * 5 + 4, none⟩ = some (I zt) ∧ w'.cell? ⟨y, 0, none⟩ = some (I xs)) (by kernel_rfl) ?_ (fun hHeld => ?_)
                · exact hS.out _ hbd.out
                by_cases hzx : zs = xs
                · have zb : (zs != xs) = false := by rw [hzx]; simp
                  have zb2 : (zs == xs) = true := by rw [hzx]; simp
                  replace hzx := Lib.hid hzx
                  refine wpAnyH_take (i := 0) (v := ?v0_216) rfl (by kernel_rfl) (by kernel_rfl) (by kernel_rfl) (fun _ _ _ h => h) (Or.inl ⟨by rfl, ?y0_216⟩) hHeld ?r0_216
                  case y0_216 => (intro w hSw; (try dsimp only at hSw); go_split_ands; go_simp; try with_reducible rfl)
                  try simp only [List.getElem_toArray, List.getElem_cons_succ, List.getElem_cons_zero, Act.put, List.setIfInBounds_toArray, List.set_cons_zero, List.set_cons_succ]
                  refine wpAnyH_take (i := 1) (v := ?v1_217) rfl (by kernel_rfl) (by kernel_rfl) (by kernel_rfl) (fun _ _ _ h => h) (Or.inl ⟨by rfl, ?y1_217⟩) hHeld ?r1_217
                  case y1_217 => (intro w hSw; (try dsimp only at hSw); go_split_ands; go_simp; try with_reducible rfl)
                  try simp only [List.getElem_toArray, List.getElem_cons_succ, List.getElem_cons_zero, Act.put, List.setIfInBounds_toArray, List.set_cons_zero, List.set_cons_succ]
                  refine wpAnyH_take (i := 2) (v := ?v2_218) rfl (by kernel_rfl) (by kernel_rfl) (by kernel_rfl) (fun _ _ _ h => h) (Or.inl ⟨by rfl, ?y2_218⟩) hHeld ?r2_218
                  case y2_218 => (intro w hSw; (try dsimp only at hSw); go_split_ands; go_simp; try with_reducible rfl)
                  try simp only [List.getElem_toArray, List.getElem_cons_succ, List.getElem_cons_zero, Act.put, List.setIfInBounds_toArray, List.set_cons_zero, List.set_cons_succ]
                  refine wpAnyH_take (i := 3) (v := ?v3_219) rfl (by kernel_rfl) (by kernel_rfl) (by kernel_rfl) (fun _ _ _ h => h) (Or.inl ⟨by rfl, ?y3_219⟩) hHeld ?r3_219
                  case y3_219 => (intro w hSw; (try dsimp only at hSw); go_split_ands; go_simp; try with_reducible rfl)
                  try simp only [List.getElem_toArray, List.getElem_cons_succ, List.getElem_cons_zero, Act.put, List.setIfInBounds_toArray, List.set_cons_zero, List.set_cons_succ]
                  refine wpAnyH_take (i := 4) (v := ?v4_220) rfl (by kernel_rfl) (by kernel_rfl) (by kernel_rfl) (fun _ _ _ h => h) (Or.inl ⟨by rfl, ?y4_220⟩) hHeld ?r4_220
                  case y4_220 => (intro w hSw; (try dsimp only at hSw); go_split_ands; go_simp; try with_reducible rfl)
                  try simp only [List.getElem_toArray, List.getElem_cons_succ, List.getElem_cons_zero, Act.put, List.setIfInBounds_toArray, List.set_cons_zero, List.set_cons_succ]
                  refine wpAnyH_take (i := 5) (v := ?v5_221) rfl (by kernel_rfl) (by kernel_rfl) (by kernel_rfl) (fun _ _ _ h => h) (Or.inl ⟨by rfl, ?y5_221⟩) hHeld ?r5_221
                  case y5_221 => (intro w hSw; (try dsimp only at hSw); go_split_ands; go_simp; try with_reducible rfl)
                  try simp only [List.getElem_toArray, List.getElem_cons_succ, List.getElem_cons_zero, Act.put, List.setIfInBounds_toArray, List.set_cons_zero, List.set_cons_succ]
                  refine wpAnyH_take (i := 6) (v := ?v6_222) rfl (by kernel_rfl) (by kernel_rfl) (by kernel_rfl) (fun _ _ _ h => h) (Or.inl ⟨by rfl, ?y6_222⟩) hHeld ?r6_222
                  case y6_222 => (intro w hSw; (try dsimp only at hSw); go_split_ands; go_simp; try with_reducible rfl)
                  try simp only [List.getElem_toArray, List.getElem_cons_succ, List.getElem_cons_zero, Act.put, List.setIfInBounds_toArray, List.set_cons_zero, List.set_cons_succ]
                  refine wpAnyH_take (i := 7) (v := ?v7_223) rfl (by kernel_rfl) (by kernel_rfl) (by kernel_rfl) (fun _ _ _ h => h) (Or.inl ⟨by rfl, ?y7_223⟩) hHeld ?r7_223
                  case y7_223 => (intro w hSw; (try dsimp only at hSw); go_split_ands; go_simp; try with_reducible rfl)
                  try simp only [List.getElem_toArray, List.getElem_cons_succ, List.getElem_cons_zero, Act.put, List.setIfInBounds_toArray, List.set_cons_zero, List.set_cons_succ]
                  refine wpAnyH_take (i := 8) (v := ?v8_224) rfl (by kernel_rfl) (by kernel_rfl) (by kernel_rfl) (fun _ _ _ h => h) (Or.inl ⟨by rfl, ?y8_224⟩) hHeld ?r8_224
                  case y8_224 => (intro w hSw; (try dsimp only at hSw); go_split_ands; go_simp; try with_reducible rfl)
                  try simp only [List.getElem_toArray, List.getElem_cons_succ, List.getElem_cons_zero, Act.put, List.setIfInBounds_toArray, List.set_cons_zero, List.set_cons_succ]
                  refine wpAnyH_take (i := 9) (v := undef) rfl (by kernel_rfl) (by kernel_rfl) (by kernel_rfl) (fun _ _ _ h => h) (Or.inr ⟨by rfl, rfl⟩) hHeld ?_
                  try simp only [List.getElem_toArray, List.getElem_cons_succ, List.getElem_cons_zero, Act.put, List.setIfInBounds_toArray, List.set_cons_zero, List.set_cons_succ]
                  refine wpAnyH_take (i := 10) (v := undef) rfl (by kernel_rfl) (by kernel_rfl) (by kernel_rfl) (fun _ _ _ h => h) (Or.inr ⟨by rfl, rfl⟩) hHeld ?_
                  try simp only [List.getElem_toArray, List.getElem_cons_succ, List.getElem_cons_zero, Act.put, List.setIfInBounds_toArray, List.set_cons_zero, List.set_cons_succ]
                  refine wpAnyH_take (i := 11) (v := undef) rfl (by kernel_rfl) (by kernel_rfl) (by kernel_rfl) (fun _ _ _ h => h) (Or.inr ⟨by rfl, rfl⟩) hHeld ?_
                  try simp only [List.getElem_toArray, List.getElem_cons_succ, List.getElem_cons_zero, Act.put, List.setIfInBounds_toArray, List.set_cons_zero, List.set_cons_succ]
                  refine wpAnyH_take (i := 12) (v := undef) rfl (by kernel_rfl) (by kernel_rfl) (by kernel_rfl) (fun _ _ _ h => h) (Or.inr ⟨by rfl, rfl⟩) hHeld ?_
                  try simp only [List.getElem_toArray, List.getElem_cons_succ, List.getElem_cons_zero, Act.put, List.setIfInBounds_toArray, List.set_cons_zero, List.set_cons_succ]
                  refine wpAnyH_take (i := 13) (v := undef) rfl (by kernel_rfl) (by kernel_rfl) (by kernel_rfl) (fun _ _ _ h => h) (Or.inr ⟨by rfl, rfl⟩) hHeld ?_
                  try simp only [List.getElem_toArray, List.getElem_cons_succ, List.getElem_cons_zero, Act.put, List.setIfInBounds_toArray, List.set_cons_zero, List.set_cons_succ]
                  refine wpAnyH_take (i := 14) (v := undef) rfl (by kernel_rfl) (by kernel_rfl) (by kernel_rfl) (fun _ _ _ h => h) (Or.inr ⟨by rfl, rfl⟩) hHeld ?_
                  try simp only [List.getElem_toArray, List.getElem_cons_succ, List.getElem_cons_zero, Act.put, List.setIfInBounds_toArray, List.set_cons_zero, List.set_cons_succ]
                  refine wpAnyH_take (i := 15) (v := undef) rfl (by kernel_rfl) (by kernel_rfl) (by kernel_rfl) (fun _ _ _ h => h) (Or.inr ⟨by rfl, rfl⟩) hHeld ?_
                  try simp only [List.getElem_toArray, List.getElem_cons_succ, List.getElem_cons_zero, Act.put, List.setIfInBounds_toArray, List.set_cons_zero, List.set_cons_succ]
                  refine wpAnyH_take (i := 16) (v := undef) rfl (by kernel_rfl) (by kernel_rfl) (by kernel_rfl) (fun _ _ _ h => h) (Or.inr ⟨by rfl, rfl⟩) hHeld ?_
                  try simp only [List.getElem_toArray, List.getElem_cons_succ, List.getElem_cons_zero, Act.put, List.setIfInBounds_toArray, List.set_cons_zero, List.set_cons_succ]
                  refine wpAnyH_take (i := 17) (v := undef) rfl (by kernel_rfl) (by kernel_rfl) (by kernel_rfl) (fun _ _ _ h => h) (Or.inr ⟨by rfl, rfl⟩) hHeld ?_
                  try simp only [List.getElem_toArray, List.getElem_cons_succ, List.getElem_cons_zero, Act.put, List.setIfInBounds_toArray, List.set_cons_zero, List.set_cons_succ]
                  refine wpAnyH_take (i := 18) (v := undef) rfl (by kernel_rfl) (by kernel_rfl) (by kernel_rfl) (fun _ _ _ h => h) (Or.inr ⟨by rfl, rfl⟩) hHeld ?_
                  try simp only [List.getElem_toArray, List.getElem_cons_succ, List.getElem_cons_zero, Act.put, List.setIfInBounds_toArray, List.set_cons_zero, List.set_cons_succ]
                  refine wpAnyH_take (i := 19) (v := undef) rfl (by kernel_rfl) (by kernel_rfl) (by kernel_rfl) (fun _ _ _ h => h) (Or.inr ⟨by rfl, rfl⟩) hHeld ?_
                  try simp only [List.getElem_toArray, List.getElem_cons_succ, List.getElem_cons_zero, Act.put, List.setIfInBounds_toArray, List.set_cons_zero, List.set_cons_succ]
                  refine wpAnyH_take (i := 20) (v := undef) rfl (by kernel_rfl) (by kernel_rfl) (by kernel_rfl) (fun _ _ _ h => h) (Or.inr ⟨by rfl, rfl⟩) hHeld ?_
                  try simp only [List.getElem_toArray, List.getElem_cons_succ, List.getElem_cons_zero, Act.put, List.setIfInBounds_toArray, List.set_cons_zero, List.set_cons_succ]
                  refine wpAnyH_take (i := 21) (v := undef) rfl (by kernel_rfl) (by kernel_rfl) (by kernel_rfl) (fun _ _ _ h => h) (Or.inr ⟨by rfl, rfl⟩) hHeld ?_
                  try simp only [List.getElem_toArray, List.getElem_cons_succ, List.getElem_cons_zero, Act.put, List.setIfInBounds_toArray, List.set_cons_zero, List.set_cons_succ]
                  refine wpAnyH_take (i := 22) (v := undef) rfl (by kernel_rfl) (by kernel_rfl) (by kernel_rfl) (fun _ _ _ h => h) (Or.inr ⟨by rfl, rfl⟩) hHeld ?_
                  try simp only [List.getElem_toArray, List.getElem_cons_succ, List.getElem_cons_zero, Act.put, List.setIfInBounds_toArray, List.set_cons_zero, List.set_cons_succ]
                  refine wpAnyH_take (i := 23) (v := undef) rfl (by kernel_rfl) (by kernel_rfl) (by kernel_rfl) (fun _ _ _ h => h) (Or.inr ⟨by rfl, rfl⟩) hHeld ?_
                  try simp only [List.getElem_toArray, List.getElem_cons_succ, List.getElem_cons_zero, Act.put, List.setIfInBounds_toArray, List.set_cons_zero, List.set_cons_succ]
                  refine wpAnyH_take (i := 24) (v := undef) rfl (by kernel_rfl) (by kernel_rfl) (by kernel_rfl) (fun _ _ _ h => h) (Or.inr ⟨by rfl, rfl⟩) hHeld ?_
                  try simp only [List.getElem_toArray, List.getElem_cons_succ, List.getElem_cons_zero, Act.put, List.setIfInBounds_toArray, List.set_cons_zero, List.set_cons_succ]
                  refine wpAnyH_take (i := 25) (v := undef) rfl (by kernel_rfl) (by kernel_rfl) (by kernel_rfl) (fun _ _ _ h => h) (Or.inr ⟨by rfl, rfl⟩) hHeld ?_
                  try simp only [List.getElem_toArray, List.getElem_cons_succ, List.getElem_cons_zero, Act.put, List.setIfInBounds_toArray, List.set_cons_zero, List.set_cons_succ]
                  refine wpAnyH_take (i := 26) (v := undef) rfl (by kernel_rfl) (by kernel_rfl) (by kernel_rfl) (fun _ _ _ h => h) (Or.inr ⟨by rfl, rfl⟩) hHeld ?_
                  try simp only [List.getElem_toArray, List.getElem_cons_succ, List.getElem_cons_zero, Act.put, List.setIfInBounds_toArray, List.set_cons_zero, List.set_cons_succ]
                  refine wpAnyH_take (i := 27) (v := undef) rfl (by kernel_rfl) (by kernel_rfl) (by kernel_rfl) (fun _ _ _ h => h) (Or.inr ⟨by rfl, rfl⟩) hHeld ?_
                  try simp only [List.getElem_toArray, List.getElem_cons_succ, List.getElem_cons_zero, Act.put, List.setIfInBounds_toArray, List.set_cons_zero, List.set_cons_succ]
                  refine wpAnyH_take (i := 28) (v := undef) rfl (by kernel_rfl) (by kernel_rfl) (by kernel_rfl) (fun _ _ _ h => h) (Or.inr ⟨by rfl, rfl⟩) hHeld ?_
                  try simp only [List.getElem_toArray, List.getElem_cons_succ, List.getElem_cons_zero, Act.put, List.setIfInBounds_toArray, List.set_cons_zero, List.set_cons_succ]
                  refine wpAnyH_take (i := 29) (v := undef) rfl (by kernel_rfl) (by kernel_rfl) (by kernel_rfl) (fun _ _ _ h => h) (Or.inr ⟨by rfl, rfl⟩) hHeld ?_
                  try simp only [List.getElem_toArray, List.getElem_cons_succ, List.getElem_cons_zero, Act.put, List.setIfInBounds_toArray, List.set_cons_zero, List.set_cons_succ]
                  refine wpAnyH_take (i := 30) (v := undef) rfl (by kernel_rfl) (by kernel_rfl) (by kernel_rfl) (fun _ _ _ h => h) (Or.inr ⟨by rfl, rfl⟩) hHeld ?_
                  try simp only [List.getElem_toArray, List.getElem_cons_succ, List.getElem_cons_zero, Act.put, List.setIfInBounds_toArray, List.set_cons_zero, List.set_cons_succ]
                  refine wpAnyH_take (i := 31) (v := undef) rfl (by kernel_rfl) (by kernel_rfl) (by kernel_rfl) (fun _ _ _ h => h) (Or.inr ⟨by rfl, rfl⟩) hHeld ?_
                  try simp only [List.getElem_toArray, List.getElem_cons_succ, List.getElem_cons_zero, Act.put, List.setIfInBounds_toArray, List.set_cons_zero, List.set_cons_succ]
                  refine wpAnyH_take (i := 32) (v := undef) rfl (by kernel_rfl) (by kernel_rfl) (by kernel_rfl) (fun _ _ _ h => h) (Or.inr ⟨by rfl, rfl⟩) hHeld ?_
                  try simp only [List.getElem_toArray, List.getElem_cons_succ, List.getElem_cons_zero, Act.put, List.setIfInBounds_toArray, List.set_cons_zero, List.set_cons_succ]
                  refine wpAnyH_take (i := 33) (v := undef) rfl (by kernel_rfl) (by kernel_rfl) (by kernel_rfl) (fun _ _ _ h => h) (Or.inr ⟨by rfl, rfl⟩) hHeld ?_
                  try simp only [List.getElem_toArray, List.getElem_cons_succ, List.getElem_cons_zero, Act.put, List.setIfInBounds_toArray, List.set_cons_zero, List.set_cons_succ]
                  refine wpAnyH_take (i := 34) (v := ?v34_225) rfl (by kernel_rfl) (by kernel_rfl) (by kernel_rfl) (fun _ _ _ h => h) (Or.inl ⟨by rfl, ?y34_225⟩) hHeld ?r34_225
                  case y34_225 => (intro w hSw; (try dsimp only at hSw); go_split_ands; go_simp; try with_reducible rfl)
                  try simp only [List.getElem_toArray, List.getElem_cons_succ, List.getElem_cons_zero, Act.put, List.setIfInBounds_toArray, List.set_cons_zero, List.set_cons_succ]
                  refine wpAnyH_done (by kernel_rfl) ?_ _
                  go_wp2_with fail
                  go_roundw
                  case rel => exact ⟨k + 1, by omega, by go_num, hbz.out.dr⟩
                  case measure => simp [intOf] <;> omega
                · have zb : (zs != xs) = true := by simp [hzx]
                  have zb2 : (zs == xs) = false := beq_eq_false_iff_ne.2 hzx
                  have hEe := hEk.out hzx
                  try simp only at hEe
                  have hCk := hCk.out
                  simp only [hEe] at hCk
                  obtain ⟨ee, hee⟩ : ∃ e, chkE U G S ⟨zs, zr, zv, zf, zt⟩ zv at_ = e := ⟨_, rfl⟩
                  have hDk := hDk.out
                  simp only [hee] at hCk hDk
                  replace hzx := Lib.hid hzx
                  replace hCk := Lib.hid hCk
                  replace hDk := Lib.hid hDk
                  clear hEe hee
                  refine wpAnyH_take (i := 0) (v := ?v0_226) rfl (by kernel_rfl) (by kernel_rfl) (by kernel_rfl) (fun _ _ _ h => h) (Or.inl ⟨by rfl, ?y0_226⟩) hHeld ?r0_226
                  case y0_226 => (intro w hSw; (try dsimp only at hSw); go_split_ands; go_simp; try with_reducible rfl)
                  try simp only [List.getElem_toArray, List.getElem_cons_succ, List.getElem_cons_zero, Act.put, List.setIfInBounds_toArray, List.set_cons_zero, List.set_cons_succ]
                  refine wpAnyH_take (i := 1) (v := ?v1_227) rfl (by kernel_rfl) (by kernel_rfl) (by kernel_rfl) (fun _ _ _ h => h) (Or.inl ⟨by rfl, ?y1_227⟩) hHeld ?r1_227
                  case y1_227 => (intro w hSw; (try dsimp only at hSw); go_split_ands; go_simp; try with_reducible rfl)
                  try simp only [List.getElem_toArray, List.getElem_cons_succ, List.getElem_cons_zero, Act.put, List.setIfInBounds_toArray, List.set_cons_zero, List.set_cons_succ]
                  refine wpAnyH_take (i := 2) (v := ?v2_228) rfl (by kernel_rfl) (by kernel_rfl) (by kernel_rfl) (fun _ _ _ h => h) (Or.inl ⟨by rfl, ?y2_228⟩) hHeld ?r2_228
                  case y2_228 => (intro w hSw; (try dsimp only at hSw); go_split_ands; go_simp; try with_reducible rfl)
                  try simp only [List.getElem_toArray, List.getElem_cons_succ, List.getElem_cons_zero, Act.put, List.setIfInBounds_toArray, List.set_cons_zero, List.set_cons_succ]
                  refine wpAnyH_take (i := 3) (v := ?v3_229) rfl (by kernel_rfl) (by kernel_rfl) (by kernel_rfl) (fun _ _ _ h => h) (Or.inl ⟨by rfl, ?y3_229⟩) hHeld ?r3_229
                  case y3_229 => (intro w hSw; (try dsimp only at hSw); go_split_ands; go_simp; try with_reducible rfl)
                  try simp only [List.getElem_toArray, List.getElem_cons_succ, List.getElem_cons_zero, Act.put, List.setIfInBounds_toArray, List.set_cons_zero, List.set_cons_succ]
                  refine wpAnyH_take (i := 4) (v := ?v4_230) rfl (by kernel_rfl) (by kernel_rfl) (by kernel_rfl) (fun _ _ _ h => h) (Or.inl ⟨by rfl, ?y4_230⟩) hHeld ?r4_230
                  case y4_230 => (intro w hSw; (try dsimp only at hSw); go_split_ands; go_simp; try with_reducible rfl)
                  try simp only [List.getElem_toArray, List.getElem_cons_succ, List.getElem_cons_zero, Act.put, List.setIfInBounds_toArray, List.set_cons_zero, List.set_cons_succ]
                  refine wpAnyH_take (i := 5) (v := ?v5_231) rfl (by kernel_rfl) (by kernel_rfl) (by kernel_rfl) (fun _ _ _ h => h) (Or.inl ⟨by rfl, ?y5_231⟩) hHeld ?r5_231
                  case y5_231 => (intro w hSw; (try dsimp only at hSw); go_split_ands; go_simp; try with_reducible rfl)
                  try simp only [List.getElem_toArray, List.getElem_cons_succ, List.getElem_cons_zero, Act.put, List.setIfInBounds_toArray, List.set_cons_zero, List.set_cons_succ]
                  refine wpAnyH_take (i := 6) (v := ?v6_232) rfl (by kernel_rfl) (by kernel_rfl) (by kernel_rfl) (fun _ _ _ h => h) (Or.inl ⟨by rfl, ?y6_232⟩) hHeld ?r6_232
                  case y6_232 => (intro w hSw; (try dsimp only at hSw); go_split_ands; go_simp; try with_reducible rfl)
                  try simp only [List.getElem_toArray, List.getElem_cons_succ, List.getElem_cons_zero, Act.put, List.setIfInBounds_toArray, List.set_cons_zero, List.set_cons_succ]
                  refine wpAnyH_take (i := 7) (v := ?v7_233) rfl (by kernel_rfl) (by kernel_rfl) (by kernel_rfl) (fun _ _ _ h => h) (Or.inl ⟨by rfl, ?y7_233⟩) hHeld ?r7_233
                  case y7_233 => (intro w hSw; (try dsimp only at hSw); go_split_ands; go_simp; try with_reducible rfl)
                  try simp only [List.getElem_toArray, List.getElem_cons_succ, List.getElem_cons_zero, Act.put, List.setIfInBounds_toArray, List.set_cons_zero, List.set_cons_succ]
                  refine wpAnyH_take (i := 8) (v := ?v8_234) rfl (by kernel_rfl) (by kernel_rfl) (by kernel_rfl) (fun _ _ _ h => h) (Or.inl ⟨by rfl, ?y8_234⟩) hHeld ?r8_234
                  case y8_234 => (intro w hSw; (try dsimp only at hSw); go_split_ands; go_simp; try with_reducible rfl)
                  try simp only [List.getElem_toArray, List.getElem_cons_succ, List.getElem_cons_zero, Act.put, List.setIfInBounds_toArray, List.set_cons_zero, List.set_cons_succ]
                  refine wpAnyH_take (i := 9) (v := ?v9_235) rfl (by kernel_rfl) (by kernel_rfl) (by kernel_rfl) (fun _ _ _ h => h) (Or.inl ⟨by rfl, ?y9_235⟩) hHeld ?r9_235
                  case y9_235 => (intro w hSw; (try dsimp only at hSw); go_split_ands; go_simp; try with_reducible rfl)
                  try simp only [List.getElem_toArray, List.getElem_cons_succ, List.getElem_cons_zero, Act.put, List.setIfInBounds_toArray, List.set_cons_zero, List.set_cons_succ]
                  refine wpAnyH_take (i := 10) (v := ?v10_236) rfl (by kernel_rfl) (by kernel_rfl) (by kernel_rfl) (fun _ _ _ h => h) (Or.inl ⟨by rfl, ?y10_236⟩) hHeld ?r10_236
                  case y10_236 => (intro w hSw; (try dsimp only at hSw); go_split_ands; go_simp; try with_reducible rfl)
                  try simp only [List.getElem_toArray, List.getElem_cons_succ, List.getElem_cons_zero, Act.put, List.setIfInBounds_toArray, List.set_cons_zero, List.set_cons_succ]
                  refine wpAnyH_take (i := 11) (v := ?v11_237) rfl (by kernel_rfl) (by kernel_rfl) (by kernel_rfl) (fun _ _ _ h => h) (Or.inl ⟨by rfl, ?y11_237⟩) hHeld ?r11_237
                  case y11_237 => (intro w hSw; (try dsimp only at hSw); go_split_ands; go_simp; try with_reducible rfl)
                  try simp only [List.getElem_toArray, List.getElem_cons_succ, List.getElem_cons_zero, Act.put, List.setIfInBounds_toArray, List.set_cons_zero, List.set_cons_succ]
                  refine wpAnyH_take (i := 12) (v := ?v12_238) rfl (by kernel_rfl) (by kernel_rfl) (by kernel_rfl) (fun _ _ _ h => h) (Or.inl ⟨by rfl, ?y12_238⟩) hHeld ?r12_238
                  case y12_238 => (intro w hSw; (try dsimp only at hSw); go_split_ands; go_simp; try with_reducible rfl)
                  try simp only [List.getElem_toArray, List.getElem_cons_succ, List.getElem_cons_zero, Act.put, List.setIfInBounds_toArray, List.set_cons_zero, List.set_cons_succ]
                  refine wpAnyH_take (i := 13) (v := ?v13_239) rfl (by kernel_rfl) (by kernel_rfl) (by kernel_rfl) (fun _ _ _ h => h) (Or.inl ⟨by rfl, ?y13_239⟩) hHeld ?r13_239
                  case y13_239 => (intro w hSw; (try dsimp only at hSw); go_split_ands; go_simp; try with_reducible rfl)
                  try simp only [List.getElem_toArray, List.getElem_cons_succ, List.getElem_cons_zero, Act.put, List.setIfInBounds_toArray, List.set_cons_zero, List.set_cons_succ]
                  refine wpAnyH_take (i := 14) (v := ?v14_240) rfl (by kernel_rfl) (by kernel_rfl) (by kernel_rfl) (fun _ _ _ h => h) (Or.inl ⟨by rfl, ?y14_240⟩) hHeld ?r14_240
                  case y14_240 => (intro w hSw; (try dsimp only at hSw); go_split_ands; go_simp; try with_reducible rfl)
                  try simp only [List.getElem_toArray, List.getElem_cons_succ, List.getElem_cons_zero, Act.put, List.setIfInBounds_toArray, List.set_cons_zero, List.set_cons_succ]
                  refine wpAnyH_take (i := 15) (v := ?v15_241) rfl (by kernel_rfl) (by kernel_rfl) (by kernel_rfl) (fun _ _ _ h => h) (Or.inl ⟨by rfl, ?y15_241⟩) hHeld ?r15_241
                  case y15_241 => (intro w hSw; (try dsimp only at hSw); go_split_ands; go_simp; try with_reducible rfl)
                  try simp only [List.getElem_toArray, List.getElem_cons_succ, List.getElem_cons_zero, Act.put, List.setIfInBounds_toArray, List.set_cons_zero, List.set_cons_succ]
                  refine wpAnyH_take (i := 16) (v := ?v16_242) rfl (by kernel_rfl) (by kernel_rfl) (by kernel_rfl) (fun _ _ _ h => h) (Or.inl ⟨by rfl, ?y16_242⟩) hHeld ?r16_242
                  case y16_242 => (intro w hSw; (try dsimp only at hSw); go_split_ands; go_simp; try with_reducible rfl)
                  try simp only [List.getElem_toArray, List.getElem_cons_succ, List.getElem_cons_zero, Act.put, List.setIfInBounds_toArray, List.set_cons_zero, List.set_cons_succ]
                  refine wpAnyH_take (i := 17) (v := ?v17_243) rfl (by kernel_rfl) (by kernel_rfl) (by kernel_rfl) (fun _ _ _ h => h) (Or.inl ⟨by rfl, ?y17_243⟩) hHeld ?r17_243
                  case y17_243 => (intro w hSw; (try dsimp only at hSw); go_split_ands; go_simp; try with_reducible rfl)
                  try simp only [List.getElem_toArray, List.getElem_cons_succ, List.getElem_cons_zero, Act.put, List.setIfInBounds_toArray, List.set_cons_zero, List.set_cons_succ]
                  refine wpAnyH_take (i := 18) (v := ?v18_244) rfl (by kernel_rfl) (by kernel_rfl) (by kernel_rfl) (fun _ _ _ h => h) (Or.inl ⟨by rfl, ?y18_244⟩) hHeld ?r18_244
                  case y18_244 => (intro w hSw; (try dsimp only at hSw); go_split_ands; go_simp; try with_reducible rfl)
                  try simp only [List.getElem_toArray, List.getElem_cons_succ, List.getElem_cons_zero, Act.put, List.setIfInBounds_toArray, List.set_cons_zero, List.set_cons_succ]
                  refine wpAnyH_take (i := 19) (v := ?v19_245) rfl (by kernel_rfl) (by kernel_rfl) (by kernel_rfl) (fun _ _ _ h => h) (Or.inl ⟨by rfl, ?y19_245⟩) hHeld ?r19_245
                  case y19_245 => (intro w hSw; (try dsimp only at hSw); go_split_ands; go_simp; try with_reducible rfl)
                  try simp only [List.getElem_toArray, List.getElem_cons_succ, List.getElem_cons_zero, Act.put, List.setIfInBounds_toArray, List.set_cons_zero, List.set_cons_succ]
                  refine wpAnyH_take (i := 21) (v := ?v21_246) rfl (by kernel_rfl) (by kernel_rfl) (by kernel_rfl) (fun _ _ _ h => h) (Or.inl ⟨by rfl, ?y21_246⟩) hHeld ?r21_246
                  case y21_246 => (intro w hSw; (try dsimp only at hSw); go_split_ands; go_simp; try with_reducible rfl)
                  try simp only [List.getElem_toArray, List.getElem_cons_succ, List.getElem_cons_zero, Act.put, List.setIfInBounds_toArray, List.set_cons_zero, List.set_cons_succ]
                  refine wpAnyH_take (i := 22) (v := ?v22_247) rfl (by kernel_rfl) (by kernel_rfl) (by kernel_rfl) (fun _ _ _ h => h) (Or.inl ⟨by rfl, ?y22_247⟩) hHeld ?r22_247
                  case y22_247 => (intro w hSw; (try dsimp only at hSw); go_split_ands; go_simp; try with_reducible rfl)
                  try simp only [List.getElem_toArray, List.getElem_cons_succ, List.getElem_cons_zero, Act.put, List.setIfInBounds_toArray, List.set_cons_zero, List.set_cons_succ]
                  refine wpAnyH_take (i := 23) (v := ?v23_248) rfl (by kernel_rfl) (by kernel_rfl) (by kernel_rfl) (fun _ _ _ h => h) (Or.inl ⟨by rfl, ?y23_248⟩) hHeld ?r23_248
                  case y23_248 => (intro w hSw; (try dsimp only at hSw); go_split_ands; go_simp; try with_reducible rfl)
                  try simp only [List.getElem_toArray, List.getElem_cons_succ, List.getElem_cons_zero, Act.put, List.setIfInBounds_toArray, List.set_cons_zero, List.set_cons_succ]
                  refine wpAnyH_take (i := 24) (v := ?v24_249) rfl (by kernel_rfl) (by kernel_rfl) (by kernel_rfl) (fun _ _ _ h => h) (Or.inl ⟨by rfl, ?y24_249⟩) hHeld ?r24_249
                  case y24_249 => (intro w hSw; (try dsimp only at hSw); go_split_ands; go_simp; try with_reducible rfl)
                  try simp only [List.getElem_toArray, List.getElem_cons_succ, List.getElem_cons_zero, Act.put, List.setIfInBounds_toArray, List.set_cons_zero, List.set_cons_succ]
                  refine wpAnyH_take (i := 25) (v := ?v25_250) rfl (by kernel_rfl) (by kernel_rfl) (by kernel_rfl) (fun _ _ _ h => h) (Or.inl ⟨by rfl, ?y25_250⟩) hHeld ?r25_250
                  case y25_250 => (intro w hSw; (try dsimp only at hSw); go_split_ands; go_simp; try with_reducible rfl)
                  try simp only [List.getElem_toArray, List.getElem_cons_succ, List.getElem_cons_zero, Act.put, List.setIfInBounds_toArray, List.set_cons_zero, List.set_cons_succ]
                  refine wpAnyH_take (i := 26) (v := ?v26_251) rfl (by kernel_rfl) (by kernel_rfl) (by kernel_rfl) (fun _ _ _ h => h) (Or.inl ⟨by rfl, ?y26_251⟩) hHeld ?r26_251
                  case y26_251 => (intro w hSw; (try dsimp only at hSw); go_split_ands; go_simp; try with_reducible rfl)
                  try simp only [List.getElem_toArray, List.getElem_cons_succ, List.getElem_cons_zero, Act.put, List.setIfInBounds_toArray, List.set_cons_zero, List.set_cons_succ]
                  refine wpAnyH_take (i := 27) (v := ?v27_252) rfl (by kernel_rfl) (by kernel_rfl) (by kernel_rfl) (fun _ _ _ h => h) (Or.inl ⟨by rfl, ?y27_252⟩) hHeld ?r27_252
                  case y27_252 => (intro w hSw; (try dsimp only at hSw); go_split_ands; go_simp; try with_reducible rfl)
                  try simp only [List.getElem_toArray, List.getElem_cons_succ, List.getElem_cons_zero, Act.put, List.setIfInBounds_toArray, List.set_cons_zero, List.set_cons_succ]
                  refine wpAnyH_take (i := 28) (v := ?v28_253) rfl (by kernel_rfl) (by kernel_rfl) (by kernel_rfl) (fun _ _ _ h => h) (Or.inl ⟨by rfl, ?y28_253⟩) hHeld ?r28_253
                  case y28_253 => (intro w hSw; (try dsimp only at hSw); go_split_ands; go_simp; try with_reducible rfl)
                  try simp only [List.getElem_toArray, List.getElem_cons_succ, List.getElem_cons_zero, Act.put, List.setIfInBounds_toArray, List.set_cons_zero, List.set_cons_succ]
                  refine wpAnyH_take (i := 29) (v := ?v29_254) rfl (by kernel_rfl) (by kernel_rfl) (by kernel_rfl) (fun _ _ _ h => h) (Or.inl ⟨by rfl, ?y29_254⟩) hHeld ?r29_254
                  case y29_254 => (intro w hSw; (try dsimp only at hSw); go_split_ands; go_simp; try with_reducible rfl)
                  try simp only [List.getElem_toArray, List.getElem_cons_succ, List.getElem_cons_zero, Act.put, List.setIfInBounds_toArray, List.set_cons_zero, List.set_cons_succ]
                  refine wpAnyH_take (i := 30) (v := ?v30_255) rfl (by kernel_rfl) (by kernel_rfl) (by kernel_rfl) (fun _ _ _ h => h) (Or.inl ⟨by rfl, ?y30_255⟩) hHeld ?r30_255
                  case y30_255 => (intro w hSw; (try dsimp only at hSw); go_split_ands; go_simp; try with_reducible rfl)
                  try simp only [List.getElem_toArray, List.getElem_cons_succ, List.getElem_cons_zero, Act.put, List.setIfInBounds_toArray, List.set_cons_zero, List.set_cons_succ]
                  refine wpAnyH_take (i := 31) (v := ?v31_256) rfl (by kernel_rfl) (by kernel_rfl) (by kernel_rfl) (fun _ _ _ h => h) (Or.inl ⟨by rfl, ?y31_256⟩) hHeld ?r31_256
                  case y31_256 => (intro w hSw; (try dsimp only at hSw); go_split_ands; go_simp; try with_reducible rfl)
                  try simp only [List.getElem_toArray, List.getElem_cons_succ, List.getElem_cons_zero, Act.put, List.setIfInBounds_toArray, List.set_cons_zero, List.set_cons_succ]
                  refine wpAnyH_ready (rs := [20]) (by kernel_rfl) (by simp) ?_
                  refine AllReadyH.cons rfl (fun K hK => ?_) AllReadyH.nil
                  have hHeld' := hHeld
                  try dsimp only at hHeld'
                  go_split_ands
                  go_simp
                  first | with_reducible refine (hCk.out _ hbd.out).mono ?_ | refine (hCk.out _ hbd.out).mono ?_
                  rintro e w11 ⟨rfl, hb11⟩
                  have hbe := Lib.hid (hbd.out.tr hb11)
                  refine hK.out _ _ ?_ (fun hHeld => ?_)
                  · exact hS.out _ hbe.out
                  clear hK K
                  try simp only [List.getElem_toArray, List.getElem_cons_succ, List.getElem_cons_zero, Act.put, List.setIfInBounds_toArray, List.set_cons_zero, List.set_cons_succ]
                  refine wpAnyH_ready (rs := [32]) (by kernel_rfl) (by simp) ?_
                  refine AllReadyH.cons rfl (fun K hK => ?_) AllReadyH.nil
                  have hHeld' := hHeld
                  try dsimp only at hHeld'
                  go_split_ands
                  go_simp
                  first | with_reducible refine (hDk.out _ hbe.out).mono ?_ | refine (hDk.out _ hbe.out).mono ?_
                  rintro e w12 ⟨rfl, hb12⟩
                  have hbf := Lib.hid (hbe.out.tr hb12)
                  have hbz2 := Lib.hid ((hbz.out.dr.tr hb11).tr hb12)
                  refine hK.out _ _ ?_ (fun hHeld => ?_)
                  · exact hS.out _ hbf.out
                  clear hK K
                  try simp only [List.getElem_toArray, List.getElem_cons_succ, List.getElem_cons_zero, Act.put, List.setIfInBounds_toArray, List.set_cons_zero, List.set_cons_succ]
                  refine wpAnyH_take (i := 33) (v := ?v33_257) rfl (by kernel_rfl) (by kernel_rfl) (by kernel_rfl) (fun _ _ _ h => h) (Or.inl ⟨by rfl, ?y33_257⟩) hHeld ?r33_257
                  case y33_257 => (intro w hSw; (try dsimp only at hSw); go_split_ands; go_simp; try with_reducible rfl)
                  try simp only [List.getElem_toArray, List.getElem_cons_succ, List.getElem_cons_zero, Act.put, List.setIfInBounds_toArray, List.set_cons_zero, List.set_cons_succ]
                  refine wpAnyH_take (i := 34) (v := ?v34_258) rfl (by kernel_rfl) (by kernel_rfl) (by kernel_rfl) (fun _ _ _ h => h) (Or.inl ⟨by rfl, ?y34_258⟩) hHeld ?r34_258
                  case y34_258 => (intro w hSw; (try dsimp only at hSw); go_split_ands; go_simp; try with_reducible rfl)
                  try simp only [List.getElem_toArray, List.getElem_cons_succ, List.getElem_cons_zero, Act.put, List.setIfInBounds_toArray, List.set_cons_zero, List.set_cons_succ]
                  refine wpAnyH_done (by kernel_rfl) ?_ _
                  go_wp2_with fail
                  go_roundw
                  case rel => exact ⟨k + 1, by omega, by go_num, hbz2.out⟩
                  case measure => simp [intOf] <;> omega
              · obtain rfl : N = k := by omega
                replace hbt2 := Lib.hid hbt2
                have RT3 := RT2.out _ hbt2.out
                replace RT3 := Lib.hid RT3
                go_wp2_with fail
                first | with_reducible refine (RT3.out).mono ?_ | refine (RT3.out).mono ?_
                rintro e w13 ⟨vs, rfl, hSo, hb13⟩
                have hSi := OwnB.ints hSo
                have hRi2 : IntsAt w13 (.slice aR nr cR) R := by
                  exact hRi.out.below (((hw8.tr hb9).tr hbz).tr hb13)
                have hml : R.length ≤ maxLen := by rw [hnr.out]; unfold maxLen; omega
                have SM := same_any R R (.slice aR nr cR) vs w13 hRi2 hSi hml hml
                rw [show decide (R = R) = true from decide_eq_true rfl] at SM
                have hbh := hb5.out.tr (hbt2.out.tr hb13)
                replace SM := Lib.hid SM
                replace hbh := Lib.hid hbh
                clear RT3 hSo hSi hRi2
                go_wp2_with fail
                first | with_reducible refine (SM.out).mono ?_ | refine (SM.out).mono ?_
                rintro e w14 ⟨rfl, hb14⟩
                go_wp2_with fail
                first | with_reducible refine (LV.out _).mono ?_ | refine (LV.out _).mono ?_
                rintro e w15 ⟨rfl, hb15⟩
                have hbi := (hbh.out.tr hb14).tr hb15
                go_wp2_with fail
                go_ret
                exact ⟨rfl, hbi⟩
end Go.Proofs.Ytajnhjcinpdfhaa.certGone
