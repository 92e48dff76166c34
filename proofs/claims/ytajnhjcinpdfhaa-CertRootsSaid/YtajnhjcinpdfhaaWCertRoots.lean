/-
  CertRoots is true for every input: roots rise, the newest one is always among them, and none that is not trusted comes back; as many certificates as were given out are numbered from 1 on, each once. No condition.
-/
import Derived.Test.YtajnhjcinpdfhaaCrJ
namespace Go.Proofs.Ytajnhjcinpdfhaa.certRoots
open Go.ChangeShapes Go.WideShapes Go.ChangeAt Go.RowKit
open Go.Proofs.Ytajnhjcinpdfhaa.cert
set_option linter.unusedVariables false
set_option linter.unusedSimpArgs false


set_option maxHeartbeats 16000000 in
set_option maxRecDepth 20000 in
theorem walk {w : World} (v0 : Value) (z0 : List Int) (hv0 : IntsAt w v0 z0) (hz0 : i64ok z0) (hm0 : z0.length ≤ maxLen) (on : Int) (l1 : -9223372036854775808 ≤ on) (u1 : on ≤ 9223372036854775807) (tw : Int) (l2 : -9223372036854775808 ≤ tw) (u2 : tw ≤ 9223372036854775807) :
    Calls Try.prog 6 #[v0, .int .i64 on, .int .i64 tw] w fun e w' => e = .returned (.bool true) ∧ Bl w w' := by
  have AC := Lib.hid (acts_any z0 v0 w hv0 hz0 hm0)
  have A1 := Lib.hid (fun w => around_any on 61 w l1 u1 (by omega) (by omega))
  have A2 := Lib.hid (fun w => around_any tw 61 w l2 u2 (by omega) (by omega))
  have f0 := around_lo on 61 (by omega); have f1 := around_hi on 61 (by omega)
  have g0 := around_lo tw 61 (by omega); have g1 := around_hi tw 61 (by omega)
  obtain ⟨o1, ho1⟩ : ∃ z_, (around on 61) = z_ := ⟨_, rfl⟩
  rw [ho1] at A1 f0 f1
  obtain ⟨o2, ho2⟩ : ∃ z_, (around tw 61) = z_ := ⟨_, rfl⟩
  rw [ho2] at A2 g0 g1
  have LV := Lib.hid lives_any
  clear hv0 ho1 ho2 l1 u1 l2 u2 hz0 hm0
  go_enter Try.func6, Try.ntmps6
  go_wp2_with fail
  have AC1 := AC.out
  unfold ActsD at AC1
  first | with_reducible refine (AC1).mono ?_ | refine (AC1).mono ?_
  rintro e w1 ⟨va, A, rfl, hAl, hA, hro, hb1⟩
  have PL := played_any A w1 _ va hro hA hAl
  unfold PlayedD at PL
  have hOK := okPS A hA A.length (Nat.le_refl _)
  obtain ⟨hl1, hl2⟩ := playTo_len A A.length
  have hcnt := fun k => pstep_U (playTo A k) (A.getD k a0)
  have hcnt' : ∀ k, (playTo A (k + 1)).U.length = (playTo A k).U.length + (if (A.getD k a0).d = 1 then 1 else 0) := fun k => hcnt k
  have hc0 : (playTo A 0).U.length = 0 := rfl
  have hle := fun k => (playTo_len A k).1
  obtain ⟨cn, hcn⟩ : ∃ z_, (fun k => (playTo A k).U.length) = z_ := ⟨_, rfl⟩
  have hcA : (playTo A A.length).U.length = cn A.length := by rw [← hcn]
  simp only [funext_iff] at hcn
  simp only [hcn] at hcnt' hc0 hle
  obtain ⟨s, hs⟩ : ∃ z_, (playTo A A.length) = z_ := ⟨_, rfl⟩
  rw [hs] at PL hOK hl1 hl2 hcA
  replace PL := Lib.hid PL
  replace hb1 := Lib.hid hb1
  replace hOK := Lib.hid hOK
  replace hcnt' := Lib.hid hcnt'
  replace hc0 := Lib.hid hc0
  replace hle := Lib.hid hle
  replace hcA := Lib.hid hcA
  clear AC AC1 hA hs hcn hcnt
  go_wp2_with fail
  first | with_reducible refine (PL.out).mono ?_ | refine (PL.out).mono ?_
  rintro e w2 ⟨p, vo, ks, rfl, hC, hG, -, -, hb2⟩
  obtain ⟨aA, gA, cA, rfl, -, -, -, hRA⟩ := hro.row (by decide)
  obtain ⟨U, G, S, t⟩ := s
  simp only at hC hG hl1 hl2 ⊢
  obtain ⟨aG, gG, cG, rfl, -, -, -, hRG⟩ := hG.row (by decide)
  have hRA := hRA.bl hb2
  have hb2 := hb1.out.tr hb2
  have hU : U.length = cn A.length := hcA.out
  clear hb1 PL hG hro hcA
  obtain ⟨N, hN⟩ : ∃ z_, (A.length) = z_ := ⟨_, rfl⟩
  rw [hN] at hl1 hl2 hAl hU ⊢
  replace hC := Lib.hid hC
  replace hRG := Lib.hid hRG
  replace hRA := Lib.hid hRA
  replace hb2 := Lib.hid hb2
  replace hN := Lib.hid hN
  go_wp2_with fail
  go_loopw [11, 12] (fun nn i wr => ∃ k : Nat, k ≤ N ∧ i = I k ∧ nn = I (1 + (cn k : Int)) ∧ wr = w2) (fun _ i _ => N - (intOf i).toNat)
  case atStart => exact ⟨0, by omega, rfl, by rw [hc0.out]; rfl, rfl⟩
  case round =>
    obtain ⟨k, hk, rfl, rfl, rfl⟩ := hrel
    by_cases hlt : k < N
    · obtain ⟨rfl, q⟩ := hRA.out.c0 aB_len a0 k (by rw [hN.out]; exact hlt)
      have q0 := q 0 (by decide)
      simp only [Nat.add_zero, List.getElem?_cons_zero] at q0
      have hc1 := hcnt'.out k
      have hle1 := hle.out k
      obtain ⟨x, hx⟩ : ∃ z_, (A.getD k a0) = z_ := ⟨_, rfl⟩
      rw [hx] at q0 hc1
      obtain ⟨xd, xa, xn, xl⟩ := x
      simp only at q0 hc1
      clear q hx
      by_cases hd : xd = 1
      · subst hd
        rw [if_pos rfl] at hc1
        replace hc1 := Lib.hid hc1
        go_wp2_with fail
        go_roundw
        case rel => exact ⟨k + 1, by omega, by go_num, by rw [hc1.out]; go_num, by trivial⟩
        case measure => simp [intOf] <;> omega
      · have hd' : (xd == 1) = false := beq_eq_false_iff_ne.2 hd
        rw [if_neg hd] at hc1
        replace hc1 := Lib.hid hc1
        go_wp2_with fail
        go_roundw
        case rel => exact ⟨k + 1, by omega, by go_num, by rw [hc1.out]; rfl, by trivial⟩
        case measure => simp [intOf] <;> omega
    · obtain rfl : N = k := by omega
      have hcU : (cn N : Int) = U.length := by rw [hU]
      have hl16 : U.length ≤ 16 := by omega
      have hg16 : G.length ≤ 16 := by omega
      rw [hcU]
      have hOg := hOK.out.g
      have hOr := hOK.out.r
      simp only at hOg hOr
      have RT := fun w' (hb : Bl wr w') now => roots_any (hC.out.bl hb) (by omega) now
      have hLst := fun now => rootsTo_last U now
      have hLt := fun now i => rootsTo_lt U now (U.length + 1) i
      have hSub := fun x y (h : x ≤ y) => gm_sub _ _ (rootsTo_sub (U := U) h (U.length + 1))
      have hRl := fun now => rootsTo_len U now (U.length + 1)
      obtain ⟨RO, hRO⟩ : ∃ z_, (fun now => rootsTo U now (U.length + 1)) = z_ := ⟨_, rfl⟩
      simp only [funext_iff] at hRO
      simp only [hRO] at RT hLst hLt hSub hRl
      obtain ⟨M, hM⟩ : ∃ z_, (U.length) = z_ := ⟨_, rfl⟩
      rw [hM] at hl16 hOg hLst hRl
      obtain ⟨L, hL⟩ : ∃ z_, (G.length) = z_ := ⟨_, rfl⟩
      rw [hL] at hOg hOr hg16
      rw [hM, hL]
      have hTt := hOK.out.tm
      simp only at hTt
      replace hOg := Lib.hid hOg
      replace hOr := Lib.hid hOr
      replace hL := Lib.hid hL
      replace RT := Lib.hid RT
      replace hLst := Lib.hid hLst
      replace hLt := Lib.hid hLt
      replace hSub := Lib.hid hSub
      replace hRl := Lib.hid hRl
      replace hM := Lib.hid hM
      clear hcnt' hc0 hle hcU hU hRO hl1 hl2 hRA hOK hC
      go_wp2_with fail
      go_loopw [13] (fun i wz => ∃ k : Nat, k ≤ L ∧ i = I k ∧ Bl wr wz) (fun i _ => L - (intOf i).toNat)
      case atStart => exact ⟨0, by omega, rfl, Bl.rfl' _⟩
      case round =>
        obtain ⟨k, hk, rfl, hbz⟩ := hrel
        by_cases hlt2 : k < L
        · obtain ⟨rfl, q⟩ := (hRG.out.bl hbz).c0 cB_len c0 k (by rw [hL.out]; exact hlt2)
          have q0 := q 0 (by decide); have q1 := q 1 (by decide)
          simp only [Nat.add_zero, List.getElem?_cons_zero, List.getElem?_cons_succ] at q0 q1
          obtain ⟨g1, g2, g3⟩ := hOg.out k hlt2
          rw [g1] at q0
          have hmono := hOr.out (k - 1) k (by omega) hlt2
          have hprev := fun h : 0 < k => ((hRG.out.bl hbz).c0 cB_len c0 (k - 1) (by rw [hL.out]; omega)).2 1 (by decide)
          simp only [List.getElem?_cons_zero, List.getElem?_cons_succ] at hprev
          obtain ⟨r, hr⟩ : ∃ z_, ((G.getD k c0).r) = z_ := ⟨_, rfl⟩
          rw [hr] at q1 g2 g3 hmono
          obtain ⟨r', hr'⟩ : ∃ z_, ((G.getD (k - 1) c0).r) = z_ := ⟨_, rfl⟩
          rw [hr'] at hmono
          simp only [hr'] at hprev
          have b1 : decide (r < 1) = false := decide_eq_false (by omega)
          have b2 : decide (r > 1 + (M : Int)) = false := decide_eq_false (by omega)
          have b4 : decide (r < r') = false := decide_eq_false (by omega)
          replace hbz := Lib.hid hbz
          clear q g1 hr hr'
          rcases Nat.eq_zero_or_pos k with rfl | hpos
          · go_wp2_with fail
            go_quiet (fail)
            go_wp2_with fail
            go_roundw
            case rel => exact ⟨1, by omega, rfl, hbz.out.drn _⟩
            case measure => simp [intOf] <;> omega
          · obtain ⟨j, rfl⟩ : ∃ j, k = j + 1 := ⟨k - 1, by omega⟩
            have q2 := hprev (by omega)
            rw [show j + 1 - 1 = j by omega] at q2
            have b3 : decide (((j + 1 : Nat) : Int) > 0) = true := decide_eq_true (by omega)
            have e1 : IntKind.i64.wrap (((j + 1 : Nat) : Int) - 1) = (j : Int) := by rw [IntKind.wrap_i64]; omega
            have e2 : IntKind.i64.wrap (((j + 1 : Nat) : Int) + 1) = ((j + 1 : Nat) : Int) + 1 := by rw [IntKind.wrap_i64]; omega
            clear hprev hmono
            go_wp2_with fail
            go_quiet (fail)
            go_wp2_with fail
            go_roundw
            case rel => exact ⟨j + 1 + 1, by omega, by go_num, hbz.out.drn _⟩
            case measure => simp [intOf] <;> omega
        · obtain rfl : L = k := by omega
          clear hOg hOr
          replace hbz := Lib.hid hbz
          go_wp2_with fail
          first | with_reducible refine (A1.out _).mono ?_ | refine (A1.out _).mono ?_
          rintro e w' ⟨rfl, rfl⟩
          obtain ⟨x, hx⟩ : ∃ x, t + o1 = x := ⟨_, rfl⟩
          obtain ⟨y, hy⟩ : ∃ y, x + o2 = y := ⟨_, rfl⟩
          have hxy : x ≤ y := by omega
          have RTx := RT.out _ hbz.out x
          replace RTx := Lib.hid RTx
          go_wp2_with fail
          first | with_reducible refine (RTx.out).mono ?_ | refine (RTx.out).mono ?_
          rintro e w3 ⟨ve, rfl, hE, hb3⟩
          have hbz3 := hbz.out.tr hb3
          replace hE := Lib.hid hE
          replace hbz3 := Lib.hid hbz3
          clear RTx hb3
          go_wp2_with fail
          first | with_reducible refine (A1.out _).mono ?_ | refine (A1.out _).mono ?_
          rintro e w' ⟨rfl, rfl⟩
          go_wp2_with fail
          first | with_reducible refine (A2.out _).mono ?_ | refine (A2.out _).mono ?_
          rintro e w' ⟨rfl, rfl⟩
          have RTy := RT.out _ hbz3.out y
          replace RTy := Lib.hid RTy
          go_wp2_with fail
          first | with_reducible refine (RTy.out).mono ?_ | refine (RTy.out).mono ?_
          rintro e w4 ⟨vl, rfl, hF, hb4⟩
          have hE4 := hE.out.bl hb4
          have hbz4 := hbz3.out.tr hb4
          clear hE RTy hb4 hbz hbz3
          obtain ⟨aE, gE, cE, rfl, -, -, -, hRE⟩ := hE4.row (by decide)
          obtain ⟨aF, gF, cF, rfl, -, -, -, hRF⟩ := hF.row (by decide)
          obtain ⟨hE0, hE1⟩ := hLst.out x
          obtain ⟨hF0, hF1⟩ := hLst.out y
          have hEr := hLt.out x
          have hgm := hSub.out x y hxy
          have hEl := hRl.out x
          have hFl := hRl.out y
          obtain ⟨E, hEe⟩ : ∃ E, RO x = E := ⟨_, rfl⟩
          obtain ⟨F, hFe⟩ : ∃ F, RO y = F := ⟨_, rfl⟩
          rw [hEe] at hRE hE0 hE1 hEr hgm hEl
          rw [hFe] at hRF hF0 hF1 hgm hFl
          rw [hEe, hFe]
          clear hE4 hF hEe hFe hLst hLt hSub hRl hx hy hxy
          obtain ⟨ne, hne⟩ : ∃ ne, E.length = ne := ⟨_, rfl⟩
          obtain ⟨nf, hnf⟩ : ∃ nf, F.length = nf := ⟨_, rfl⟩
          have hqe := (hRE.c0 iB_len 0 (ne - 1) (by omega)).2 0 (by decide)
          have hqf := (hRF.c0 iB_len 0 (nf - 1) (by omega)).2 0 (by decide)
          obtain ⟨rfl, -⟩ := hRE.c0 iB_len 0 (ne - 1) (by omega)
          obtain ⟨rfl, -⟩ := hRF.c0 iB_len 0 (nf - 1) (by omega)
          simp only [Nat.mul_one, Nat.add_zero, List.getElem?_cons_zero] at hqe hqf
          rw [hne] at hE0 hE1 hEr hEl ⊢
          rw [hnf] at hF0 hF1 hFl hgm ⊢
          rw [hE1, Int.add_comm] at hqe
          rw [hF1, Int.add_comm] at hqf
          obtain ⟨ne, rfl⟩ : ∃ m, ne = m + 1 := ⟨ne - 1, by omega⟩
          obtain ⟨nf, rfl⟩ : ∃ m, nf = m + 1 := ⟨nf - 1, by omega⟩
          rw [show ne + 1 - 1 = ne by omega] at hqe
          rw [show nf + 1 - 1 = nf by omega] at hqf
          have d1 : (((ne + 1 : Nat) : Int) == 0) = false := beq_eq_false_iff_ne.2 (by omega)
          have d2 : (((nf + 1 : Nat) : Int) == 0) = false := beq_eq_false_iff_ne.2 (by omega)
          have d3 : IntKind.i64.wrap (((ne + 1 : Nat) : Int) - 1) = (ne : Int) := by rw [IntKind.wrap_i64]; omega
          have d4 : IntKind.i64.wrap (((nf + 1 : Nat) : Int) - 1) = (nf : Int) := by rw [IntKind.wrap_i64]; omega
          have d5 : ((ne : Int) + 1 == 0) = false := beq_eq_false_iff_ne.2 (by omega)
          have d6 : ((nf : Int) + 1 == 0) = false := beq_eq_false_iff_ne.2 (by omega)
          have d7 : IntKind.i64.wrap ((ne : Int) + 1 - 1) = (ne : Int) := by rw [IntKind.wrap_i64]; omega
          have d8 : IntKind.i64.wrap ((nf : Int) + 1 - 1) = (nf : Int) := by rw [IntKind.wrap_i64]; omega
          replace hRE := Lib.hid hRE
          replace hRF := Lib.hid hRF
          replace hbz4 := Lib.hid hbz4
          replace hEr := Lib.hid hEr
          replace hgm := Lib.hid hgm
          replace hne := Lib.hid hne
          replace hnf := Lib.hid hnf
          clear hE1 hF1 hE0 hF0
          go_wp2_with fail
          have hst := gm_step E F
          have hgn := gm_nil E
          rw [hne.out, hnf.out] at hst
          replace hst := Lib.hid hst
          replace hgn := Lib.hid hgn
          clear hqe hqf d1 d2 d3 d4 d5 d6 d7 d8
          go_loopw [16, 17] (fun kk i wz => ∃ k j : Nat, j ≤ ne + 1 ∧ i = I j ∧ kk = I k ∧ k ≤ nf + 1 ∧ nf + 1 = k + gm (E.drop j) (F.drop k) ∧ Bl w4 wz) (fun _ i _ => ne + 1 - (intOf i).toNat)
          case atStart => exact ⟨0, 0, by omega, rfl, rfl, by omega, by simp only [List.drop_zero]; rw [hgm.out]; omega, Bl.rfl' _⟩
          case round =>
            obtain ⟨k, j, hj, rfl, rfl, hk3, hgk, hbq⟩ := hrel
            by_cases hlt3 : j < ne + 1
            · have q0 := (((hRE.out.bl hbq).c0 iB_len 0 j (by rw [hne.out]; exact hlt3)).2 0 (by decide))
              have qp := fun h : 0 < j => (((hRE.out.bl hbq).c0 iB_len 0 (j - 1) (by rw [hne.out]; omega)).2 0 (by decide))
              have qk := fun h : k < nf + 1 => fun w' hb => (((hRF.out.bl hbq).bl (w' := w') hb).c0 iB_len 0 k (by rw [hnf.out]; exact h)).2 0 (by decide)
              have qj := fun w' hb => (((hRE.out.bl hbq).bl (w' := w') hb).c0 iB_len 0 j (by rw [hne.out]; exact hlt3)).2 0 (by decide)
              have hri := fun h : 0 < j => hEr.out j h hlt3
              have hs1 := hst.out j k hlt3
              simp only [Nat.mul_one, Nat.add_zero, List.getElem?_cons_zero] at q0 qp qk qj
              obtain ⟨ev, hev⟩ : ∃ z_, (E.getD j 0) = z_ := ⟨_, rfl⟩
              rw [hev] at q0 hs1 hri
              simp only [hev] at hri qj
              obtain ⟨fv, hfv⟩ : ∃ z_, (F.getD k 0) = z_ := ⟨_, rfl⟩
              rw [hfv] at hs1
              simp only [hfv] at qk
              obtain ⟨pv, hpv⟩ : ∃ z_, (E.getD (j - 1) 0) = z_ := ⟨_, rfl⟩
              simp only [hpv] at qp hri
              rw [hs1] at hgk
              replace hbq := Lib.hid hbq
              replace qk := Lib.hid qk
              replace qj := Lib.hid qj
              clear hs1 hev hfv hpv
              rcases Nat.eq_zero_or_pos j with rfl | hpos
              · by_cases hkf : k < nf + 1
                · have qk1 := fun n => qk.out hkf _ (Bl.drewN _ n)
                  have qj1 := fun n => qj.out _ (Bl.drewN _ n)
                  have c1 : decide ((k : Int) < ((nf + 1 : Nat) : Int)) = true := decide_eq_true (by omega)
                  have c2 : decide ((k : Int) < (nf : Int) + 1) = true := decide_eq_true (by omega)
                  by_cases hef : fv = ev
                  · rw [if_pos ⟨hkf, hef⟩] at hgk
                    have ce : (fv == ev) = true := beq_iff_eq.2 hef
                    replace hgk := Lib.hid hgk
                    clear hef
                    go_wp2_with fail
                    go_quiet (fail)
                    go_wp2_with fail
                    go_quiet (fail)
                    go_wp2_with fail
                    go_roundw
                    case rel => exact ⟨k + 1, 0 + 1, by omega, by go_num, by go_num, by omega, by have := hgk.out; omega, hbq.out.drn _⟩
                    case measure => simp [intOf] <;> omega
                  · rw [if_neg (fun h => hef h.2)] at hgk
                    have ce : (fv == ev) = false := beq_eq_false_iff_ne.2 hef
                    replace hgk := Lib.hid hgk
                    clear hef
                    go_wp2_with fail
                    go_quiet (fail)
                    go_wp2_with fail
                    go_quiet (fail)
                    go_wp2_with fail
                    go_roundw
                    case rel => exact ⟨k, 0 + 1, by omega, by go_num, rfl, by omega, hgk.out, hbq.out.drn _⟩
                    case measure => simp [intOf] <;> omega
                · rw [if_neg (fun h => hkf h.1)] at hgk
                  have c1 : decide ((k : Int) < ((nf + 1 : Nat) : Int)) = false := decide_eq_false (by omega)
                  have c2 : decide ((k : Int) < (nf : Int) + 1) = false := decide_eq_false (by omega)
                  replace hgk := Lib.hid hgk
                  go_wp2_with fail
                  go_quiet (fail)
                  go_wp2_with fail
                  go_quiet (fail)
                  go_wp2_with fail
                  go_roundw
                  case rel => exact ⟨k, 0 + 1, by omega, by go_num, rfl, by omega, hgk.out, hbq.out.drn _⟩
                  case measure => simp [intOf] <;> omega
              · obtain ⟨j, rfl⟩ : ∃ m, j = m + 1 := ⟨j - 1, by omega⟩
                have q2 := qp (by omega)
                rw [show j + 1 - 1 = j by omega] at q2
                have hr2 := hri (by omega)
                have b1 : decide (((j + 1 : Nat) : Int) > 0) = true := decide_eq_true (by omega)
                have b2 : IntKind.i64.wrap (((j + 1 : Nat) : Int) - 1) = (j : Int) := by rw [IntKind.wrap_i64]; omega
                have b4 : decide (ev ≤ pv) = false := decide_eq_false (by omega)
                clear qp hri
                by_cases hkf : k < nf + 1
                · have qk1 := fun n => qk.out hkf _ (Bl.drewN _ n)
                  have qj1 := fun n => qj.out _ (Bl.drewN _ n)
                  have c1 : decide ((k : Int) < ((nf + 1 : Nat) : Int)) = true := decide_eq_true (by omega)
                  have c2 : decide ((k : Int) < (nf : Int) + 1) = true := decide_eq_true (by omega)
                  by_cases hef : fv = ev
                  · rw [if_pos ⟨hkf, hef⟩] at hgk
                    have ce : (fv == ev) = true := beq_iff_eq.2 hef
                    replace hgk := Lib.hid hgk
                    clear hef
                    go_wp2_with fail
                    go_quiet (fail)
                    go_wp2_with fail
                    go_quiet (fail)
                    go_wp2_with fail
                    go_roundw
                    case rel => exact ⟨k + 1, (j + 1) + 1, by omega, by go_num, by go_num, by omega, by have := hgk.out; omega, hbq.out.drn _⟩
                    case measure => simp [intOf] <;> omega
                  · rw [if_neg (fun h => hef h.2)] at hgk
                    have ce : (fv == ev) = false := beq_eq_false_iff_ne.2 hef
                    replace hgk := Lib.hid hgk
                    clear hef
                    go_wp2_with fail
                    go_quiet (fail)
                    go_wp2_with fail
                    go_quiet (fail)
                    go_wp2_with fail
                    go_roundw
                    case rel => exact ⟨k, (j + 1) + 1, by omega, by go_num, rfl, by omega, hgk.out, hbq.out.drn _⟩
                    case measure => simp [intOf] <;> omega
                · rw [if_neg (fun h => hkf h.1)] at hgk
                  have c1 : decide ((k : Int) < ((nf + 1 : Nat) : Int)) = false := decide_eq_false (by omega)
                  have c2 : decide ((k : Int) < (nf : Int) + 1) = false := decide_eq_false (by omega)
                  replace hgk := Lib.hid hgk
                  go_wp2_with fail
                  go_quiet (fail)
                  go_wp2_with fail
                  go_quiet (fail)
                  go_wp2_with fail
                  go_roundw
                  case rel => exact ⟨k, (j + 1) + 1, by omega, by go_num, rfl, by omega, hgk.out, hbq.out.drn _⟩
                  case measure => simp [intOf] <;> omega
            · obtain rfl : j = ne + 1 := by omega
              have hd : E.drop (ne + 1) = [] := List.drop_eq_nil_of_le (by rw [hne.out]; exact Nat.le_refl _)
              rw [hd] at hgk
              obtain rfl : k = nf + 1 := by simp only [gm] at hgk; omega
              have hbf := (hb2.out.tr hbz4.out).tr hbq
              replace hbf := Lib.hid hbf
              clear hgk hd hbq
              go_wp2_with fail
              first | with_reducible refine (LV.out _).mono ?_ | refine (LV.out _).mono ?_
              rintro e w9 ⟨rfl, hb9⟩
              have hbg := hbf.out.tr hb9
              go_wp2_with fail
              go_ret
              exact ⟨rfl, hbg⟩
end Go.Proofs.Ytajnhjcinpdfhaa.certRoots
