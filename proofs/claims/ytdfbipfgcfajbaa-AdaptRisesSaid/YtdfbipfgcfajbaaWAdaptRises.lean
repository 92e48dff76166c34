/-
  AdaptRises is true for every input: good ones alone, each with the limit under way, raise it by 1 each, up to the greatest; where fewer are under way they change nothing. No condition.
-/
import Derived.Test.YtdfbipfgcfajbaaAdaD
import Derived.Deep.CutRange
import Derived.StillTailTactics
namespace Go.Proofs.Ytdfbipfgcfajbaa.adaptRises
open Go.ChangeShapes Go.WideShapes Go.ChangeAt Go.RowKit
open Go.Proofs.Ytdfbipfgcfajbaa.adapt
set_option linter.unusedVariables false
set_option linter.unusedSimpArgs false

theorem y_cells {w : World} {y : Nat} {a b c : Int} {f : Bool} {t : TypeId} (h : w.heap[y]? = some (.cells #[I a, I b, I c, .bool f] t (0, 0))) : w.cell? ⟨y, 0, none⟩ = some (I a) ∧ w.cell? ⟨y, 1, none⟩ = some (I b) ∧ w.cell? ⟨y, 2, none⟩ = some (I c) ∧ w.cell? ⟨y, 3, none⟩ = some (.bool f) := by
  refine ⟨?_, ?_, ?_, ?_⟩ <;> simp [World.cell?, h]
theorem rise_no (s : Lim) (t : Int) (h : Ok s) : done s t (s.n - 1) (max 1 s.ba) true = { s with ba := max 1 s.ba } := by
  obtain ⟨n, lo, hi, ba, ct, ca⟩ := s
  unfold Ok at h
  unfold done rise fall based
  simp only at *
  by_cases hb : ba = 0
  · subst hb
    have h1 : ¬ (n ≤ n - 1 ∧ n < hi) := by omega
    have h2 : max (1 : Int) 0 = 1 := by omega
    rw [h2]
    simp [h1]
  · have h1 : ¬ (n ≤ n - 1 ∧ n < hi) := by omega
    have h2 : max 1 ba = ba := by omega
    have h3 : ba ≤ 4 * ba := by omega
    rw [h2]
    simp [h1, h3]
theorem rise_one (s : Lim) (t : Int) (h : Ok s) (hb : 1 ≤ s.ba) : done s t s.n s.ba true = { s with n := min s.hi (s.n + 1) } := by
  obtain ⟨n, lo, hi, ba, ct, ca⟩ := s
  unfold Ok at h
  unfold done rise fall based
  simp only at *
  have h3 : ba ≤ 4 * ba := by omega
  have h4 : ¬ ba = 0 := by omega
  by_cases h1 : n < hi
  · have h5 : min hi (n + 1) = n + 1 := by omega
    rw [h5]
    simp [h1, h3]
  · have h5 : min hi (n + 1) = n := by omega
    rw [h5]
    simp [h1, h3]

def PlayD (w : World) : Ending → World → Prop := fun e w' => ∃ p s lo hi t, e = .returned (.tuple #[ptr p, .int .i64 lo, .int .i64 hi, .int .i64 t]) ∧ w.heap.size ≤ p ∧ Ok s ∧ s.lo = lo ∧ s.hi = hi ∧ 0 ≤ t ∧ t ≤ 210 ∧ AB w' p s ∧ Bl w w'
set_option maxHeartbeats 8000000 in
set_option maxRecDepth 20000 in
theorem played_any {w : World} (n : Int) (n0 : -9223372036854775808 ≤ n) (n1 : n ≤ 9223372036854775807) (v : Value) (z : List Int) (hv : IntsAt w v z) (hz : i64ok z) (hm : z.length ≤ maxLen) :
    Calls Try.prog 14 #[.int .i64 n, v] w (PlayD w) := by
  have Ac := Lib.hid (fun w' (hb : Bl w w') => acts_any z v w' (Rd.below hv hb) hz hm)
  clear hv hz hm
  have Bw := Lib.hid (fun w => between_any n w n0 n1)
  go_enter Try.func14, Try.ntmps14
  go_wp2_with fail
  refine (Bw.out _).mono ?_
  rintro e w1 ⟨lo, hi, rfl, lo0, lo1, hi0, hi1, hb1⟩
  go_wp2_with fail
  refine (new_any lo hi _).mono ?_
  rintro e w2 ⟨p, rfl, hp, h, hb2⟩
  have hb0 := hb1.tr hb2
  have hwp : w.heap.size ≤ p := by have := hb1.size; omega
  have Ac2 := Lib.hid (Ac.out w2 hb0)
  go_wp2_with fail
  refine Ac2.out.mono ?_
  rintro e w3 ⟨a, cap, g, A, rfl, hA30, hAo, hg, hAr, hb3⟩
  have hpg : g ≠ p := by have := h.lt; omega
  replace h := h.bl hb3
  replace hb0 := hb0.tr hb3
  obtain ⟨N, hN⟩ : ∃ zz, A.length = zz := ⟨_, rfl⟩
  have hAA : ∀ i, i < N → okA (A.getD i ac0) := fun i hi => hAo _ (by
    rw [List.getD_eq_getElem?_getD, List.getElem?_eq_getElem (by omega)]; exact List.getElem_mem _)
  rw [hN] at hA30 ⊢
  replace hN := Lib.hid hN; replace hAA := Lib.hid hAA
  clear hAo
  clear hb1 hb2 hb3 hp Ac2 hg
  go_wp2_with fail
  go_loopw [11, 13] (fun tv i wr => ∃ (k : Nat) (s : Lim) (t : Int), k ≤ N ∧ i = I k ∧ tv = I t ∧ 0 ≤ t ∧ t ≤ 210 ∧ Ok s ∧ s.lo = lo ∧ s.hi = hi ∧ AB wr p s ∧ ARow wr g a A ∧ Bl w wr) (fun _ i _ => N - (intOf i).toNat)
  case atStart => exact ⟨0, _, 0, by omega, rfl, rfl, by omega, by omega, by unfold Ok; simp only; omega, rfl, rfl, h, hAr, hb0⟩
  case round =>
    obtain ⟨k, s, tl, hkN, rfl, rfl, tl0, tl1, hOk, hlo, hhi, hs, hA, hbr⟩ := hrel
    clear h hAr hb0
    by_cases hlt : k < N
    · obtain ⟨rfl, q0, q1, q2, q3⟩ := hA.c k (by rw [hN.out]; exact hlt)
      have hoa := hAA.out k hlt
      obtain ⟨xx, hxx⟩ : ∃ q, A.getD k ac0 = q := ⟨_, rfl⟩
      rw [hxx] at q0 q1 q2 q3 hoa
      obtain ⟨t, u, tk, wl⟩ := xx
      obtain ⟨t0, t1, u0, u1, tk0, tk1⟩ := hoa
      simp only at q0 q1 q2 q3 t0 t1 u0 u1 tk0 tk1
      have hxx' := Lib.hid hxx
      clear hxx
      have hsd := hs.bl (Bl.rfl' wr).dr
      have hAd := hA.bl (Bl.rfl' wr).dr
      have hbd := hbr.dr
      obtain ⟨_, k0, k1, k2, k3⟩ := hAd.c k (by rw [hN.out]; exact hlt)
      rw [hxx'.out] at k0 k1 k2 k3
      simp only at k0 k1 k2 k3
      have hOk' := done_ok (under := u) (well := wl) hOk t0 (show t ≤ 10000 by omega) (show 0 ≤ tk by omega) (show tk ≤ 30 by omega)
      obtain ⟨hlo', hhi', _⟩ := done_parts s t u tk wl
      rw [hlo] at hlo'; rw [hhi] at hhi'
      obtain ⟨wd, hwd⟩ : ∃ zz, wr.drew = zz := ⟨_, rfl⟩
      rw [hwd] at hsd hAd hbd k0 k1 k2 k3
      have D1 := Lib.hid (done_any wd p s t u tk wl hsd hOk.l t0 (by omega) (by omega) (by omega))
      obtain ⟨s', hs'⟩ : ∃ zz, done s t u tk wl = zz := ⟨_, rfl⟩
      rw [hs'] at D1 hOk' hlo' hhi'
      replace hwd := Lib.hid hwd; replace hOk' := Lib.hid hOk'; replace hlo' := Lib.hid hlo'; replace hhi' := Lib.hid hhi'
      clear hs' hs hA hbr hsd hOk hlo hhi
      go_upto_region 9 with fail
      refine wp_region_still_tail 17 (by kernel_rfl) (by kernel_rfl) ?_
      simp only [List.take_succ_cons, List.take_zero, List.drop_succ_cons, List.drop_zero]
      change wpStill _ _ wr.drew (fun a' => wpList _ _ _ _ a' wr.drew) _ _
      rw [hwd.out]
      repeat still_step
      try refine wpStill_nil ?_
      go_wp2_with fail
      refine D1.out.mono ?_
      rintro e w5 ⟨rfl, h5, hg5⟩
      have hA5 := hAd.gby hg5 hpg
      have hb5 := hbd.gp hg5 hwp
      replace h5 := Lib.hid h5
      clear hg5 D1 hAd hbd k0 k1 k2 k3 q0 q1 q2 q3
      go_wp2_with fail
      go_roundw
      case rel => exact ⟨k + 1, s', t, by omega, by go_num, rfl, t0, by omega, hOk'.out, hlo'.out, hhi'.out, h5.out, hA5, hb5⟩
      case measure => simp [intOf]; omega
    · obtain rfl : k = N := by omega
      go_wp2_with fail
      refine bodyPost_ret (v := .tuple #[ptr p, I lo, I hi, I tl]) (by simp [results, Try.results14, go_sem]) rfl ⟨p, s, lo, hi, tl, rfl, hwp, hOk, hlo, hhi, tl0, tl1, hs, hbr⟩

set_option maxHeartbeats 8000000 in
set_option maxRecDepth 20000 in
theorem walk {w : World} (n : Int) (n0 : -9223372036854775808 ≤ n) (n1 : n ≤ 9223372036854775807) (v : Value) (z : List Int) (hv : IntsAt w v z) (hz : i64ok z) (hm : z.length ≤ maxLen) (f : Int) (f0 : -9223372036854775808 ≤ f) (f1 : f ≤ 9223372036854775807) :
    Calls Try.prog 5 #[.int .i64 n, v, .int .i64 f] w fun e w' => e = .returned (.bool true) ∧ Bl w w' := by
  have Pl := Lib.hid (played_any n n0 n1 v z hv hz hm)
  clear hv hz hm
  have A0 := fun w => around_any f 21 w f0 f1 (by omega) (by omega)
  have j0 := around_lo f 21 (by omega); have j1 := around_hi f 21 (by omega)
  obtain ⟨j, hj⟩ : ∃ t, around f 21 = t := ⟨_, rfl⟩
  rw [hj] at A0 j0 j1
  obtain ⟨j, rfl⟩ : ∃ c : Nat, j = c := ⟨j.toNat, by omega⟩
  replace A0 := Lib.hid A0
  clear hj f0 f1
  go_enter Try.func5, Try.ntmps5
  go_wp2_with fail
  refine Pl.out.mono ?_
  rintro e w1 ⟨p, s, lo, hi, t, rfl, hp, hOk, rfl, rfl, t0, t1, hs, hb1⟩
  have B1 := Lib.hid (base_any w1 p s hs)
  have N1 := Lib.hid (now_any w1 p s hs)
  have hOkk := hOk
  unfold Ok at hOkk
  obtain ⟨v1, v2, v3, v4, v5, v6, v7, _, _⟩ := hOkk
  have D1 := done_any w1 p s t (s.n - 1) (max 1 s.ba) true hs hOk.l t0 (by omega) (by omega) (by omega)
  rw [rise_no s t hOk] at D1
  obtain ⟨tk, htk⟩ : ∃ zz, max 1 s.ba = zz := ⟨_, rfl⟩
  have m1 : (if 1 < s.ba then s.ba else 1) = tk := by split <;> omega
  have m2 : (if s.ba < 1 then 1 else s.ba) = tk := by split <;> omega
  have htb : 1 ≤ tk ∧ tk ≤ 30 := by omega
  rw [htk] at D1
  replace D1 := Lib.hid D1
  replace hOk := Lib.hid hOk
  clear hs htk
  go_wp2_with fail
  refine B1.out.mono ?_
  rintro e w2 ⟨rfl, rfl⟩
  go_wp2_with fail
  all_goals
    refine (A0.out _).mono ?_
    rintro e w2 ⟨rfl, rfl⟩
    go_wp2_with fail
    refine N1.out.mono ?_
    rintro e w2 ⟨rfl, rfl⟩
    go_wp2_with fail
    refine D1.out.mono ?_
    rintro e w3 ⟨rfl, h3, hg3⟩
    have hb3 := hb1.gp hg3 hp
    have N2 : Calls Try.prog 10 #[ptr p] w3 fun e w' => e = .returned (.int .i64 s.n) ∧ w3 = w' := now_any w3 p { s with ba := tk } h3
    have hn0 : (s.n != s.n) = false := by simp
    replace N2 := Lib.hid N2; replace h3 := Lib.hid h3
    clear hg3 D1 B1 N1 m1 m2
    go_wp2_with fail
    refine N2.out.mono ?_
    rintro e w4 ⟨rfl, rfl⟩
    go_wp2_with fail
    go_loopw [14] (fun i wr => ∃ k : Nat, k ≤ j ∧ i = I k ∧ AB wr p { s with ba := tk, n := min s.hi (s.n + k) } ∧ Bl w wr) (fun i _ => j - (intOf i).toNat)
    case atStart =>
      have e0 : min s.hi (s.n + ((0 : Nat) : Int)) = s.n := by omega
      exact ⟨0, by omega, rfl, by rw [e0]; exact h3.out, hb3⟩
    case round =>
      obtain ⟨k, hk, rfl, hr, hbr⟩ := hrel
      by_cases hlt : k < j
      · have hok : Ok { s with ba := tk, n := min s.hi (s.n + k) } := by have := hOk.out; unfold Ok at *; simp only; omega
        have D2 := done_any wr p _ t (min s.hi (s.n + k)) tk true hr hok.l t0 (by omega) (by omega) (by omega)
        have hro := rise_one _ t hok (show 1 ≤ tk by omega)
        simp only at hro
        rw [hro, show min s.hi (min s.hi (s.n + (k : Int)) + 1) = min s.hi (s.n + ((k + 1 : Nat) : Int)) by omega] at D2
        have N3 := Lib.hid (now_any wr p _ hr)
        replace D2 := Lib.hid D2
        clear hr hok hro
        go_wp2_with fail
        refine N3.out.mono ?_
        rintro e w5 ⟨rfl, rfl⟩
        go_wp2_with fail
        refine D2.out.mono ?_
        rintro e w6 ⟨rfl, h6, hg6⟩
        have hb6 := hbr.gp hg6 hp
        replace h6 := Lib.hid h6
        clear hg6 D2 N3 hbr
        go_wp2_with fail
        go_roundw
        case rel => exact ⟨k + 1, by omega, by go_num, h6.out, hb6⟩
        case measure => simp [intOf]; omega
      · obtain rfl : k = j := by omega
        have N3 := now_any wr p _ hr
        simp only at N3
        obtain ⟨r, hr'⟩ : ∃ zz, min s.hi (s.n + (k : Int)) = zz := ⟨_, rfl⟩
        have m3 : (if s.n + (k : Int) < s.hi then s.n + (k : Int) else s.hi) = r := by split <;> omega
        have m4 : (if s.hi < s.n + (k : Int) then s.hi else s.n + (k : Int)) = r := by split <;> omega
        have m5 : (r == r) = true := by simp
        rw [hr'] at N3
        replace N3 := Lib.hid N3
        clear hr hr'
        go_wp2_with fail
        refine N3.out.mono ?_
        rintro e w5 ⟨rfl, rfl⟩
        go_wp2_with fail
        all_goals
          refine (lives21 _).mono ?_
          rintro e w9 ⟨rfl, hb9⟩
          go_wp2_with fail
          go_ret
          exact ⟨rfl, hbr.tr hb9⟩
end Go.Proofs.Ytdfbipfgcfajbaa.adaptRises
