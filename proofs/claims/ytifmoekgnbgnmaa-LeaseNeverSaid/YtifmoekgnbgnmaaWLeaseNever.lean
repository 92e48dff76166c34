/-
  LeaseNever is true for every input: in each window three clients together admit no more than the limit, whatever they ask, and whatever is forgotten. No condition.
-/
import Derived.Test.YtifmoekgnbgnmaaWinF
namespace Go.Proofs.Ytifmoekgnbgnmaa.leaseNever
open Go.ChangeShapes Go.WideShapes Go.ChangeAt Go.RowKit
open Go.Proofs.Ytifmoekgnbgnmaa.lease
set_option linter.unusedVariables false
set_option linter.unusedSimpArgs false

set_option maxHeartbeats 4000000 in
theorem walk {w : World} (n : Int) (n0 : -9223372036854775808 ≤ n) (n1 : n ≤ 9223372036854775807) (v : Value) (z : List Int) (hv : IntsAt w v z) (hz : i64ok z) (hm : z.length ≤ maxLen) :
    Calls Try.prog 5 #[.int .i64 n, v] w fun e w' => e = .returned (.bool true) ∧ Bl w w' := by
  have Ac := Lib.hid (fun w' (hb : Bl w w') => acts_any z v w' (Rd.below hv hb) hz hm)
  clear hv hz hm
  have Ra := Lib.hid (fun w => rate_any n w n0 n1)
  go_enter Try.func5, Try.ntmps5
  go_wp2_with fail
  refine (Ra.out _).mono ?_
  rintro e w1 ⟨L, W, S, rfl, hk, L12, W9, hb1⟩
  have hx2 := heap_alloc_new w1 (.cells #[I L, I W, I S] 23)
  obtain ⟨x, hx⟩ : ∃ x, w1.heap.size = x := ⟨_, rfl⟩
  have hbw := hb1.al (.cells #[I L, I W, I S] 23)
  rw [hx] at hx2
  replace hx := Lib.hid hx
  clear hb1
  replace hk := Lib.hid hk
  go_upto_region 2 with fail
  rw [hx.out]
  obtain ⟨w2, hw2⟩ : ∃ t, w1.alloc (.cells #[I L, I W, I S] 23) = t := ⟨_, rfl⟩
  rw [hw2] at hx2 hbw ⊢
  clear hw2
  obtain ⟨d0, d1, d2⟩ := var_cells hx2
  go_cut [6] from 8 to 13 (fun wv wx => WinI L W S w2 wv wx)
  case first =>
    have KK := Lib.hid (fun w' (hb : Bl w2 w') => (⟨hb, var_cells (var_bl hx2 hb)⟩ : Bl w2 w' ∧ w'.cell? ⟨x, 0, none⟩ = some (I L) ∧ w'.cell? ⟨x, 1, none⟩ = some (I W) ∧ w'.cell? ⟨x, 2, none⟩ = some (I S)))
    go_region_held3 (fun w' => Bl w2 w' ∧ w'.cell? ⟨x, 0, none⟩ = some (I L) ∧ w'.cell? ⟨x, 1, none⟩ = some (I W) ∧ w'.cell? ⟨x, 2, none⟩ = some (I S))
      ((go_split_ands; exact KK.out _ (by first | assumption | exact Bl.rfl' _ | exact Bl.drewN _ _ | exact Bl.dr (by first | assumption | exact Bl.rfl' _) | exact Bl.tr (by assumption) (by assumption))))
      (first
        | (go_at_call 19; go_split_ands; refine (Ac.out _ (hbw.tr (by assumption))).mono ?_; rintro e w5 ⟨a, cap, g, A, rfl, hok, hg, hAr, hb5⟩)
        | (go_at_call 28; go_split_ands; refine (windows_any L W S _ g a cap A hAr hok hk.out).mono ?_; rintro e w6 ⟨v6, b6, rfl, hb6', hown6, hb6⟩))
    all_goals
      go_split_ands
      have hB : Bl w2 w6 := by assumption
      go_wp2_with fail
      go_meet
      case rel => exact ⟨A, b6, hok, hown6, hB⟩
  case rest =>
    obtain ⟨A, b6, hok, hown, hb3⟩ := hcut
    have hF := winds_fine (al := False) hk.out hok (fun h => h.elim)
    obtain ⟨a, cap, g, rfl, R⟩ := wins_read hown
    have hNl := Nat.le_trans (winds_len L W S A) hok.1
    obtain ⟨Ws, hWs⟩ : ∃ t, winds L W S A = t := ⟨_, rfl⟩
    rw [hWs] at R hF hNl ⊢
    have hF' := fun i h => hF _ (getD_memW Ws i h)
    obtain ⟨N, hN⟩ : ∃ t, Ws.length = t := ⟨_, rfl⟩
    rw [hN] at R hF' hNl ⊢
    have hx3 := var_bl hx2 hb3
    have hbl := hbw.tr hb3
    replace hF' := Lib.hid hF'; replace R := Lib.hid R; replace hx3 := Lib.hid hx3
    have hk' := hk.out
    obtain ⟨L0, L1, W0, W1, S0, S1⟩ := hk'
    clear hown hF hWs d0 d1 d2 hx2 hb3 hbw hN
    go_wp2_with fail
    go_loopw [7] (fun i wr => ∃ k : Nat, k ≤ N ∧ i = I k ∧ Bl wc wr) (fun i _ => N - (intOf i).toNat)
    case atStart => exact ⟨0, by omega, rfl, Bl.rfl' _⟩
    case round =>
      obtain ⟨k, hkN, rfl, hbr⟩ := hrel
      by_cases hlt : k < N
      · obtain ⟨rfl, q0, q1, q2, q3⟩ := R.out wr hbr k hlt
        have hf := hF'.out k hlt
        obtain ⟨u, hu⟩ : ∃ t, Ws.getD k win0 = t := ⟨_, rfl⟩
        rw [hu] at q0 q1 q2 q3 hf
        obtain ⟨uk, ua, ud, uf⟩ := u
        obtain ⟨f1, f2, f3, f4, _⟩ := hf
        simp only at q0 q1 q2 q3 f1 f2 f3 f4
        have hx4 := var_bl hx3.out hbr
        obtain ⟨d0, d1, d2⟩ := var_cells hx4
        clear hu
        have g1 : decide (ud > L) = false := decide_eq_false (by omega)
        have g2 : decide (ud > ua) = false := decide_eq_false (by omega)
        clear f4
        go_wp2_with fail
        go_quiet (fail)
        go_wp2_with fail
        go_roundw
        case rel => exact ⟨k + 1, by omega, by go_num, hbr.drn _⟩
        case measure => simp [intOf]; omega
      · obtain rfl : k = N := by omega
        go_wp2_with fail
        refine (lives24 _).mono ?_
        rintro e w9 ⟨rfl, hb9⟩
        go_wp2_with fail
        go_ret
        exact ⟨rfl, (hbl.tr hbr).tr hb9⟩
end Go.Proofs.Ytifmoekgnbgnmaa.leaseNever
