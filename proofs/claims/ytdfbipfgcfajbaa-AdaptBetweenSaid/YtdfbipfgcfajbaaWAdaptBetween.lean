/-
  AdaptBetween is true for every input: the limit stays between the two, rises by 1 at most, and only where so many were under way, and is cut by a quarter, and one more, at most; the base does not rise. No condition.
-/
import Derived.Test.YtdfbipfgcfajbaaAdaD
namespace Go.Proofs.Ytdfbipfgcfajbaa.adaptBetween
open Go.ChangeShapes Go.WideShapes Go.ChangeAt Go.RowKit
open Go.Proofs.Ytdfbipfgcfajbaa.adapt
set_option linter.unusedVariables false
set_option linter.unusedSimpArgs false

theorem steps {s : Lim} {now under took : Int} {well : Bool} (h : Ok s) (k0 : 1 ≤ took) :
    (done s now under took well).n ≤ s.n + 1 ∧ (s.n < (done s now under took well).n → well = true ∧ s.n ≤ under) ∧ 3 * s.n ≤ 4 * (done s now under took well).n + 3 ∧ (s.n = s.lo → s.n ≤ (done s now under took well).n) ∧
    (0 < s.ba → (done s now under took well).ba ≤ s.ba) ∧ (well = true → 0 < (done s now under took well).ba ∧ (done s now under took well).ba ≤ took) ∧ (well = false → (done s now under took well).ba = s.ba) := by
  obtain ⟨n, lo, hi, ba, ct, ca⟩ := s
  unfold Ok at h
  unfold done rise fall based
  simp only at *
  cases well with
  | true =>
    repeat' split
    all_goals (try simp only at *)
    all_goals refine ⟨?_, ?_, ?_, ?_, ?_, ?_, ?_⟩
    all_goals first | omega | (intro hh; first | omega | (refine ⟨?_, ?_⟩ <;> first | rfl | trivial | omega) | (simp_all; done) | (simp_all; omega))
  | false =>
    repeat' split
    all_goals (try simp only at *)
    all_goals refine ⟨?_, ?_, ?_, ?_, ?_, ?_, ?_⟩
    all_goals first | omega | (intro hh; first | omega | (simp_all; done) | (exfalso; simp_all; omega) | (simp_all; omega))

theorem y_cells {w : World} {y : Nat} {a b c : Int} {f : Bool} {t : TypeId} (h : w.heap[y]? = some (.cells #[I a, I b, I c, .bool f] t (0, 0))) : w.cell? ⟨y, 0, none⟩ = some (I a) ∧ w.cell? ⟨y, 1, none⟩ = some (I b) ∧ w.cell? ⟨y, 2, none⟩ = some (I c) ∧ w.cell? ⟨y, 3, none⟩ = some (.bool f) := by
  refine ⟨?_, ?_, ?_, ?_⟩ <;> simp [World.cell?, h]
set_option maxHeartbeats 8000000 in
set_option maxRecDepth 20000 in
theorem walk {w : World} (n : Int) (n0 : -9223372036854775808 ≤ n) (n1 : n ≤ 9223372036854775807) (v : Value) (z : List Int) (hv : IntsAt w v z) (hz : i64ok z) (hm : z.length ≤ maxLen) :
    Calls Try.prog 3 #[.int .i64 n, v] w fun e w' => e = .returned (.bool true) ∧ Bl w w' := by
  have Ac := Lib.hid (fun w' (hb : Bl w w') => acts_any z v w' (Rd.below hv hb) hz hm)
  clear hv hz hm
  have Bw := Lib.hid (fun w => between_any n w n0 n1)
  go_enter Try.func3, Try.ntmps3
  go_wp2_with fail
  refine (Bw.out _).mono ?_
  rintro e w1 ⟨lo, hi, rfl, lo0, lo1, hi0, hi1, hb1⟩
  go_wp2_with fail
  refine (new_any lo hi _).mono ?_
  rintro e w2 ⟨p, rfl, hp, h, hb2⟩
  have hb0 := hb1.tr hb2
  have hwp : w.heap.size ≤ p := by have := hb1.size; omega
  have Ac2 := Lib.hid (Ac.out w2 hb0)
  go_wp2_with fail
  refine Ac2.out.mono ?_
  rintro e w3 ⟨a, cap, g, A, rfl, hA30, hAo, hg, hAr, hb3⟩
  have hpg : g ≠ p := by have := h.lt; omega
  replace h := h.bl hb3
  replace hb0 := hb0.tr hb3
  obtain ⟨N, hN⟩ : ∃ zz, A.length = zz := ⟨_, rfl⟩
  have hAA : ∀ i, i < N → okA (A.getD i ac0) := fun i hi => hAo _ (by
    rw [List.getD_eq_getElem?_getD, List.getElem?_eq_getElem (by omega)]; exact List.getElem_mem _)
  rw [hN] at hA30 ⊢
  replace hN := Lib.hid hN; replace hAA := Lib.hid hAA
  clear hAo
  clear hb1 hb2 hb3 hp Ac2 hg
  go_wp2_with fail
  go_loopw [9] (fun i wr => ∃ (k : Nat) (s : Lim), k ≤ N ∧ i = I k ∧ Ok s ∧ s.lo = lo ∧ s.hi = hi ∧ AB wr p s ∧ ARow wr g a A ∧ Bl w wr) (fun i _ => N - (intOf i).toNat)
  case atStart => exact ⟨0, _, by omega, rfl, by unfold Ok; simp only; omega, rfl, rfl, h, hAr, hb0⟩
  case round =>
    obtain ⟨k, s, hkN, rfl, hOk, hlo, hhi, hs, hA, hbr⟩ := hrel
    clear h hAr hb0
    by_cases hlt : k < N
    · obtain ⟨rfl, q0, q1, q2, q3⟩ := hA.c k (by rw [hN.out]; exact hlt)
      have hoa := hAA.out k hlt
      obtain ⟨xx, hxx⟩ : ∃ q, A.getD k ac0 = q := ⟨_, rfl⟩
      rw [hxx] at q0 q1 q2 q3 hoa
      obtain ⟨t, u, tk, wl⟩ := xx
      obtain ⟨t0, t1, u0, u1, tk0, tk1⟩ := hoa
      simp only at q0 q1 q2 q3 t0 t1 u0 u1 tk0 tk1
      clear hxx
      have hal := (Bl.rfl' wr).al (.cells #[I t, I u, I tk, .bool wl] 30)
      have hsa := hs.bl hal
      have hyv := heap_alloc_new wr (.cells #[I t, I u, I tk, .bool wl] 30)
      have N1 := Lib.hid (now_any _ p s hsa)
      have B1 := Lib.hid (base_any _ p s hsa)
      have D1 := Lib.hid (done_any _ p s t u tk wl hsa hOk.l t0 (by omega) (by omega) (by omega))
      have hOk' := done_ok (under := u) (well := wl) hOk t0 (show t ≤ 10000 by omega) (show 0 ≤ tk by omega) (show tk ≤ 30 by omega)
      have hst := steps (now := t) (under := u) (took := tk) (well := wl) hOk (by omega)
      obtain ⟨hlo', hhi', _⟩ := done_parts s t u tk wl
      obtain ⟨s', hs'⟩ : ∃ zz, done s t u tk wl = zz := ⟨_, rfl⟩
      rw [hs'] at D1 hOk' hst hlo' hhi'
      rw [hlo] at hlo'; rw [hhi] at hhi'
      obtain ⟨f1, f2, f3, f4, f5, f6, f7⟩ := hst
      have hOkk := hOk
      have hOkk' := hOk'
      unfold Ok at hOkk hOkk'
      obtain ⟨v1, v2, v3, v4, v5, v6, v7, _, _⟩ := hOkk
      obtain ⟨x1, x2, x3, x4, x5, x6, x7, _, _⟩ := hOkk'
      rw [hlo] at v1 v2 v3 f4; rw [hhi] at v4 v5; rw [hlo'] at x1 x2 x3; rw [hhi'] at x4 x5
      have hAa := hA.bl hal
      have hba := hbr.tr hal
      have hpy : wr.heap.size ≠ p := by have := hs.lt; omega
      obtain ⟨y, hy⟩ : ∃ zz, wr.heap.size = zz := ⟨_, rfl⟩
      clear hs' hs hal
      replace hlo' := Lib.hid hlo'; replace hhi' := Lib.hid hhi'; replace hlo := Lib.hid hlo; replace hhi := Lib.hid hhi
      replace hyv := Lib.hid hyv; replace hAa := Lib.hid hAa; replace hOk' := Lib.hid hOk'
      replace f2 := Lib.hid f2; replace f4 := Lib.hid f4; replace f5 := Lib.hid f5; replace f6 := Lib.hid f6; replace f7 := Lib.hid f7
      replace hOk := Lib.hid hOk
      go_wp2_with fail
      refine N1.out.mono ?_
      rintro e w4 ⟨rfl, rfl⟩
      go_wp2_with fail
      refine B1.out.mono ?_
      rintro e w4 ⟨rfl, rfl⟩
      go_wp2_with fail
      refine D1.out.mono ?_
      rintro e w5 ⟨rfl, h5, hg5⟩
      have hA5 := hAa.out.gby hg5 hpg
      have hb5 := hba.gp hg5 hwp
      have hy5 := var_gby hyv.out hg5 hpy
      have N2 := Lib.hid (now_any w5 p s' h5)
      rw [hy] at hy5
      clear hg5 N1 B1 D1 hsa hAa hba hyv q0 q1 q2 q3
      obtain ⟨z0, z1, z2, z3⟩ := y_cells hy5
      have hsn := Lib.hid h5
      clear h5
      have d1 : decide (s'.n < lo) = false := decide_eq_false (by omega)
      have d2 : decide (s'.n > hi) = false := decide_eq_false (by omega)
      have d2' : decide (hi < s'.n) = false := decide_eq_false (by omega)
      have d3 : decide (s'.n > s.n + 1) = false := decide_eq_false (by omega)
      have d3' : decide (s.n + 1 < s'.n) = false := decide_eq_false (by omega)
      have d6 : decide (4 * s'.n + 3 < 3 * s.n) = false := decide_eq_false (by omega)
      cases wl with
      | true =>
        obtain ⟨g1, g2⟩ := f6.out rfl
        have g3 := f5.out
        by_cases hup : s.n < s'.n
        · have g4 := (f2.out hup).2
          have d5 : decide (u < s.n) = false := decide_eq_false (by omega)
          have d7 : decide (s'.n < s.n) = false := decide_eq_false (by omega)
          have d4 : decide (s'.n > s.n) = true := decide_eq_true hup
          have d4' : decide (s.n < s'.n) = true := decide_eq_true hup
          by_cases hba0 : 0 < s.ba
          · have q1 : decide (s.ba > 0) = true := decide_eq_true hba0
            have q1' : decide (0 < s.ba) = true := decide_eq_true hba0
            have q2 : decide (s'.ba > s.ba) = false := decide_eq_false (by omega)
            have q2' : decide (s.ba < s'.ba) = false := decide_eq_false (by omega)
            have q3 : decide (s'.ba > 0) = true := decide_eq_true (by omega)
            have q3' : decide (0 < s'.ba) = true := decide_eq_true (by omega)
            have q4 : decide (tk < s'.ba) = false := decide_eq_false (by omega)
            go_wp2_with fail
            refine N2.out.mono ?_
            rintro e w6 ⟨rfl, rfl⟩
            go_wp2_with fail
            go_quiet ((go_at_call 11; exact Calls.quiet_of_same (q_of (base_any _ p s' (by first | exact hsn.out | exact hsn.out.bl (Bl.drewN _ _))))))
            go_wp2_with fail
            go_roundw
            case rel => exact ⟨k + 1, s', by omega, by go_num, hOk'.out, hlo'.out, hhi'.out, hsn.out.bl (Bl.drewN _ _), hA5.bl (Bl.drewN _ _), hb5.drn _⟩
            case measure => simp [intOf]; omega
          · have q1 : decide (s.ba > 0) = false := decide_eq_false hba0
            have q1' : decide (0 < s.ba) = false := decide_eq_false hba0
            have q3 : decide (s'.ba > 0) = true := decide_eq_true (by omega)
            have q3' : decide (0 < s'.ba) = true := decide_eq_true (by omega)
            have q4 : decide (tk < s'.ba) = false := decide_eq_false (by omega)
            go_wp2_with fail
            refine N2.out.mono ?_
            rintro e w6 ⟨rfl, rfl⟩
            go_wp2_with fail
            go_quiet ((go_at_call 11; exact Calls.quiet_of_same (q_of (base_any _ p s' (by first | exact hsn.out | exact hsn.out.bl (Bl.drewN _ _))))))
            go_wp2_with fail
            go_roundw
            case rel => exact ⟨k + 1, s', by omega, by go_num, hOk'.out, hlo'.out, hhi'.out, hsn.out.bl (Bl.drewN _ _), hA5.bl (Bl.drewN _ _), hb5.drn _⟩
            case measure => simp [intOf]; omega
        · have d4 : decide (s'.n > s.n) = false := decide_eq_false hup
          have d4' : decide (s.n < s'.n) = false := decide_eq_false hup
          by_cases hdn : s'.n < s.n
          · have d7 : decide (s'.n < s.n) = true := decide_eq_true hdn
            have g5 : ¬ s.n = lo := fun hh => by have := f4.out hh; omega
            have g6 : (s.n == lo) = false := beq_eq_false_iff_ne.2 g5
            by_cases hba0 : 0 < s.ba
            · have q1 : decide (s.ba > 0) = true := decide_eq_true hba0
              have q1' : decide (0 < s.ba) = true := decide_eq_true hba0
              have q2 : decide (s'.ba > s.ba) = false := decide_eq_false (by omega)
              have q2' : decide (s.ba < s'.ba) = false := decide_eq_false (by omega)
              have q3 : decide (s'.ba > 0) = true := decide_eq_true (by omega)
              have q3' : decide (0 < s'.ba) = true := decide_eq_true (by omega)
              have q4 : decide (tk < s'.ba) = false := decide_eq_false (by omega)
              go_wp2_with fail
              refine N2.out.mono ?_
              rintro e w6 ⟨rfl, rfl⟩
              go_wp2_with fail
              go_quiet ((go_at_call 11; exact Calls.quiet_of_same (q_of (base_any _ p s' (by first | exact hsn.out | exact hsn.out.bl (Bl.drewN _ _))))))
              go_wp2_with fail
              go_roundw
              case rel => exact ⟨k + 1, s', by omega, by go_num, hOk'.out, hlo'.out, hhi'.out, hsn.out.bl (Bl.drewN _ _), hA5.bl (Bl.drewN _ _), hb5.drn _⟩
              case measure => simp [intOf]; omega
            · have q1 : decide (s.ba > 0) = false := decide_eq_false hba0
              have q1' : decide (0 < s.ba) = false := decide_eq_false hba0
              have q3 : decide (s'.ba > 0) = true := decide_eq_true (by omega)
              have q3' : decide (0 < s'.ba) = true := decide_eq_true (by omega)
              have q4 : decide (tk < s'.ba) = false := decide_eq_false (by omega)
              go_wp2_with fail
              refine N2.out.mono ?_
              rintro e w6 ⟨rfl, rfl⟩
              go_wp2_with fail
              go_quiet ((go_at_call 11; exact Calls.quiet_of_same (q_of (base_any _ p s' (by first | exact hsn.out | exact hsn.out.bl (Bl.drewN _ _))))))
              go_wp2_with fail
              go_roundw
              case rel => exact ⟨k + 1, s', by omega, by go_num, hOk'.out, hlo'.out, hhi'.out, hsn.out.bl (Bl.drewN _ _), hA5.bl (Bl.drewN _ _), hb5.drn _⟩
              case measure => simp [intOf]; omega
          · have d7 : decide (s'.n < s.n) = false := decide_eq_false hdn
            by_cases hba0 : 0 < s.ba
            · have q1 : decide (s.ba > 0) = true := decide_eq_true hba0
              have q1' : decide (0 < s.ba) = true := decide_eq_true hba0
              have q2 : decide (s'.ba > s.ba) = false := decide_eq_false (by omega)
              have q2' : decide (s.ba < s'.ba) = false := decide_eq_false (by omega)
              have q3 : decide (s'.ba > 0) = true := decide_eq_true (by omega)
              have q3' : decide (0 < s'.ba) = true := decide_eq_true (by omega)
              have q4 : decide (tk < s'.ba) = false := decide_eq_false (by omega)
              go_wp2_with fail
              refine N2.out.mono ?_
              rintro e w6 ⟨rfl, rfl⟩
              go_wp2_with fail
              go_quiet ((go_at_call 11; exact Calls.quiet_of_same (q_of (base_any _ p s' (by first | exact hsn.out | exact hsn.out.bl (Bl.drewN _ _))))))
              go_wp2_with fail
              go_roundw
              case rel => exact ⟨k + 1, s', by omega, by go_num, hOk'.out, hlo'.out, hhi'.out, hsn.out.bl (Bl.drewN _ _), hA5.bl (Bl.drewN _ _), hb5.drn _⟩
              case measure => simp [intOf]; omega
            · have q1 : decide (s.ba > 0) = false := decide_eq_false hba0
              have q1' : decide (0 < s.ba) = false := decide_eq_false hba0
              have q3 : decide (s'.ba > 0) = true := decide_eq_true (by omega)
              have q3' : decide (0 < s'.ba) = true := decide_eq_true (by omega)
              have q4 : decide (tk < s'.ba) = false := decide_eq_false (by omega)
              go_wp2_with fail
              refine N2.out.mono ?_
              rintro e w6 ⟨rfl, rfl⟩
              go_wp2_with fail
              go_quiet ((go_at_call 11; exact Calls.quiet_of_same (q_of (base_any _ p s' (by first | exact hsn.out | exact hsn.out.bl (Bl.drewN _ _))))))
              go_wp2_with fail
              go_roundw
              case rel => exact ⟨k + 1, s', by omega, by go_num, hOk'.out, hlo'.out, hhi'.out, hsn.out.bl (Bl.drewN _ _), hA5.bl (Bl.drewN _ _), hb5.drn _⟩
              case measure => simp [intOf]; omega
      | false =>
        have f7' := f7.out rfl
        have hup : ¬ s.n < s'.n := fun hh => by have := (f2.out hh).1; simp at this
        have d4 : decide (s'.n > s.n) = false := decide_eq_false hup
        have d4' : decide (s.n < s'.n) = false := decide_eq_false hup
        by_cases hdn : s'.n < s.n
        · have d7 : decide (s'.n < s.n) = true := decide_eq_true hdn
          have g5 : ¬ s.n = lo := fun hh => by have := f4.out hh; omega
          have g6 : (s.n == lo) = false := beq_eq_false_iff_ne.2 g5
          by_cases hba0 : 0 < s.ba
          · have q1 : decide (s.ba > 0) = true := decide_eq_true hba0
            have q1' : decide (0 < s.ba) = true := decide_eq_true hba0
            have q2 : decide (s'.ba > s.ba) = false := decide_eq_false (by omega)
            have q2' : decide (s.ba < s'.ba) = false := decide_eq_false (by omega)
            have q3 : decide (s'.ba > 0) = true := decide_eq_true (by omega)
            have q3' : decide (0 < s'.ba) = true := decide_eq_true (by omega)
            have q5 : (s'.ba != s.ba) = false := by rw [f7']; simp
            go_wp2_with fail
            refine N2.out.mono ?_
            rintro e w6 ⟨rfl, rfl⟩
            go_wp2_with fail
            go_quiet ((go_at_call 11; exact Calls.quiet_of_same (q_of (base_any _ p s' (by first | exact hsn.out | exact hsn.out.bl (Bl.drewN _ _))))))
            go_wp2_with fail
            go_roundw
            case rel => exact ⟨k + 1, s', by omega, by go_num, hOk'.out, hlo'.out, hhi'.out, hsn.out.bl (Bl.drewN _ _), hA5.bl (Bl.drewN _ _), hb5.drn _⟩
            case measure => simp [intOf]; omega
          · have q1 : decide (s.ba > 0) = false := decide_eq_false hba0
            have q1' : decide (0 < s.ba) = false := decide_eq_false hba0
            have q3 : decide (s'.ba > 0) = false := decide_eq_false (by omega)
            have q3' : decide (0 < s'.ba) = false := decide_eq_false (by omega)
            have q5 : (s'.ba != s.ba) = false := by rw [f7']; simp
            go_wp2_with fail
            refine N2.out.mono ?_
            rintro e w6 ⟨rfl, rfl⟩
            go_wp2_with fail
            go_quiet ((go_at_call 11; exact Calls.quiet_of_same (q_of (base_any _ p s' (by first | exact hsn.out | exact hsn.out.bl (Bl.drewN _ _))))))
            go_wp2_with fail
            go_roundw
            case rel => exact ⟨k + 1, s', by omega, by go_num, hOk'.out, hlo'.out, hhi'.out, hsn.out.bl (Bl.drewN _ _), hA5.bl (Bl.drewN _ _), hb5.drn _⟩
            case measure => simp [intOf]; omega
        · have d7 : decide (s'.n < s.n) = false := decide_eq_false hdn
          by_cases hba0 : 0 < s.ba
          · have q1 : decide (s.ba > 0) = true := decide_eq_true hba0
            have q1' : decide (0 < s.ba) = true := decide_eq_true hba0
            have q2 : decide (s'.ba > s.ba) = false := decide_eq_false (by omega)
            have q2' : decide (s.ba < s'.ba) = false := decide_eq_false (by omega)
            have q3 : decide (s'.ba > 0) = true := decide_eq_true (by omega)
            have q3' : decide (0 < s'.ba) = true := decide_eq_true (by omega)
            have q5 : (s'.ba != s.ba) = false := by rw [f7']; simp
            go_wp2_with fail
            refine N2.out.mono ?_
            rintro e w6 ⟨rfl, rfl⟩
            go_wp2_with fail
            go_quiet ((go_at_call 11; exact Calls.quiet_of_same (q_of (base_any _ p s' (by first | exact hsn.out | exact hsn.out.bl (Bl.drewN _ _))))))
            go_wp2_with fail
            go_roundw
            case rel => exact ⟨k + 1, s', by omega, by go_num, hOk'.out, hlo'.out, hhi'.out, hsn.out.bl (Bl.drewN _ _), hA5.bl (Bl.drewN _ _), hb5.drn _⟩
            case measure => simp [intOf]; omega
          · have q1 : decide (s.ba > 0) = false := decide_eq_false hba0
            have q1' : decide (0 < s.ba) = false := decide_eq_false hba0
            have q3 : decide (s'.ba > 0) = false := decide_eq_false (by omega)
            have q3' : decide (0 < s'.ba) = false := decide_eq_false (by omega)
            have q5 : (s'.ba != s.ba) = false := by rw [f7']; simp
            go_wp2_with fail
            refine N2.out.mono ?_
            rintro e w6 ⟨rfl, rfl⟩
            go_wp2_with fail
            go_quiet ((go_at_call 11; exact Calls.quiet_of_same (q_of (base_any _ p s' (by first | exact hsn.out | exact hsn.out.bl (Bl.drewN _ _))))))
            go_wp2_with fail
            go_roundw
            case rel => exact ⟨k + 1, s', by omega, by go_num, hOk'.out, hlo'.out, hhi'.out, hsn.out.bl (Bl.drewN _ _), hA5.bl (Bl.drewN _ _), hb5.drn _⟩
            case measure => simp [intOf]; omega
    · obtain rfl : k = N := by omega
      go_wp2_with fail
      refine (lives21 _).mono ?_
      rintro e w9 ⟨rfl, hb9⟩
      go_wp2_with fail
      go_ret
      exact ⟨rfl, hbr.tr hb9⟩
end Go.Proofs.Ytdfbipfgcfajbaa.adaptBetween
