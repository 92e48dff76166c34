/-
  AdaptApart is true for every input: two cuts are the base apart, at least. No condition.
-/
import Derived.Test.YtdfbipfgcfajbaaAdaD
namespace Go.Proofs.Ytdfbipfgcfajbaa.adaptApart
open Go.ChangeShapes Go.WideShapes Go.ChangeAt Go.RowKit
open Go.Proofs.Ytdfbipfgcfajbaa.adapt
set_option linter.unusedVariables false
set_option linter.unusedSimpArgs false

theorem cut_apart {s : Lim} {now under took : Int} {well : Bool} (h : Ok s) (hd : (done s now under took well).n < s.n) : (done s now under took well).ct = true ∧ (done s now under took well).ca = now ∧ (s.ct = true → s.ca + (done s now under took well).ba ≤ now) := by
  obtain ⟨n, lo, hi, ba, ct, ca⟩ := s
  unfold Ok at h
  unfold done rise fall based at *
  simp only at *
  revert hd
  repeat' split
  all_goals (try simp only at *)
  all_goals intro hd
  all_goals first | omega | (refine ⟨by first | rfl | trivial, by first | rfl | trivial, fun hc => ?_⟩; simp_all; done) | (refine ⟨by first | rfl | trivial, by first | rfl | trivial, fun hc => ?_⟩; simp_all; omega)
theorem cut_later {s : Lim} {now under took : Int} {well : Bool} (h : Ok s) (k0 : 0 ≤ took) (hc : s.ct = true) : (done s now under took well).ct = true ∧ s.ca ≤ (done s now under took well).ca := by
  obtain ⟨n, lo, hi, ba, ct, ca⟩ := s
  unfold Ok at h
  unfold done rise fall based at *
  simp only at *
  subst hc
  repeat' split
  all_goals (try simp only at *)
  all_goals first | (refine ⟨by first | rfl | trivial, ?_⟩; omega) | (simp_all; done) | (simp_all; omega)

set_option maxHeartbeats 8000000 in
set_option maxRecDepth 20000 in
theorem walk {w : World} (n : Int) (n0 : -9223372036854775808 ≤ n) (n1 : n ≤ 9223372036854775807) (v : Value) (z : List Int) (hv : IntsAt w v z) (hz : i64ok z) (hm : z.length ≤ maxLen) :
    Calls Try.prog 4 #[.int .i64 n, v] w fun e w' => e = .returned (.bool true) ∧ Bl w w' := by
  have Ac := Lib.hid (fun w' (hb : Bl w w') => acts_any z v w' (Rd.below hv hb) hz hm)
  clear hv hz hm
  have Bw := Lib.hid (fun w => between_any n w n0 n1)
  go_enter Try.func4, Try.ntmps4
  go_wp2_with fail
  refine (Bw.out _).mono ?_
  rintro e w1 ⟨lo, hi, rfl, lo0, lo1, hi0, hi1, hb1⟩
  go_wp2_with fail
  refine (new_any lo hi _).mono ?_
  rintro e w2 ⟨p, rfl, hp, h, hb2⟩
  have hb0 := hb1.tr hb2
  have hwp : w.heap.size ≤ p := by have := hb1.size; omega
  have Ac2 := Lib.hid (Ac.out w2 hb0)
  go_wp2_with fail
  refine Ac2.out.mono ?_
  rintro e w3 ⟨a, cap, g, A, rfl, hA30, hAo, hg, hAr, hb3⟩
  have hpg : g ≠ p := by have := h.lt; omega
  replace h := h.bl hb3
  replace hb0 := hb0.tr hb3
  obtain ⟨N, hN⟩ : ∃ zz, A.length = zz := ⟨_, rfl⟩
  have hAA : ∀ i, i < N → okA (A.getD i ac0) := fun i hi => hAo _ (by
    rw [List.getD_eq_getElem?_getD, List.getElem?_eq_getElem (by omega)]; exact List.getElem_mem _)
  rw [hN] at hA30 ⊢
  replace hN := Lib.hid hN; replace hAA := Lib.hid hAA
  clear hAo
  clear hb1 hb2 hb3 hp Ac2 hg
  go_wp2_with fail
  go_loopw [9, 10, 11] (fun c l i wr => ∃ (k : Nat) (s : Lim) (cut : Bool) (last : Int), k ≤ N ∧ i = I k ∧ c = .bool cut ∧ l = I last ∧ Ok s ∧ (cut = true → s.ct = true ∧ last ≤ s.ca) ∧ 0 ≤ last ∧ last ≤ 210 ∧ AB wr p s ∧ ARow wr g a A ∧ Bl w wr) (fun _ _ i _ => N - (intOf i).toNat)
  case atStart => exact ⟨0, _, false, 0, by omega, rfl, rfl, rfl, by unfold Ok; simp only; omega, fun h => by simp at h, by omega, by omega, h, hAr, hb0⟩
  case round =>
    obtain ⟨k, s, cut, last, hkN, rfl, rfl, rfl, hOk, hcut, l0, l1, hs, hA, hbr⟩ := hrel
    clear h hAr hb0
    by_cases hlt : k < N
    · obtain ⟨rfl, q0, q1, q2, q3⟩ := hA.c k (by rw [hN.out]; exact hlt)
      have hoa := hAA.out k hlt
      obtain ⟨xx, hxx⟩ : ∃ q, A.getD k ac0 = q := ⟨_, rfl⟩
      rw [hxx] at q0 q1 q2 q3 hoa
      obtain ⟨t, u, tk, wl⟩ := xx
      obtain ⟨t0, t1, u0, u1, tk0, tk1⟩ := hoa
      simp only at q0 q1 q2 q3 t0 t1 u0 u1 tk0 tk1
      clear hxx
      have hal := (Bl.rfl' wr).al (.cells #[I t, I u, I tk, .bool wl] 30)
      have hsa := hs.bl hal
      have hyv := heap_alloc_new wr (.cells #[I t, I u, I tk, .bool wl] 30)
      have N1 := Lib.hid (now_any _ p s hsa)
      have D1 := Lib.hid (done_any _ p s t u tk wl hsa hOk.l t0 (by omega) (by omega) (by omega))
      have hOk' := done_ok (under := u) (well := wl) hOk t0 (show t ≤ 10000 by omega) (show 0 ≤ tk by omega) (show tk ≤ 30 by omega)
      have hcl := fun hh => cut_later (now := t) (under := u) (took := tk) (well := wl) hOk (show 0 ≤ tk by omega) (hcut hh).1
      have hca := cut_apart (s := s) (now := t) (under := u) (took := tk) (well := wl) hOk
      obtain ⟨s', hs'⟩ : ∃ zz, done s t u tk wl = zz := ⟨_, rfl⟩
      rw [hs'] at D1 hOk' hcl hca
      have hAa := hA.bl hal
      have hba := hbr.tr hal
      have hpy : wr.heap.size ≠ p := by have := hs.lt; omega
      have hgy : wr.heap.size ≠ wr.heap.size + 1 := by omega
      obtain ⟨y, hy⟩ : ∃ zz, wr.heap.size = zz := ⟨_, rfl⟩
      clear hs' hs hal
      replace hyv := Lib.hid hyv; replace hcl := Lib.hid hcl; replace hca := Lib.hid hca; replace hAa := Lib.hid hAa; replace hOk' := Lib.hid hOk'
      go_wp2_with fail
      refine N1.out.mono ?_
      rintro e w4 ⟨rfl, rfl⟩
      go_wp2_with fail
      refine D1.out.mono ?_
      rintro e w5 ⟨rfl, h5, hg5⟩
      have hA5 := hAa.out.gby hg5 hpg
      have hb5 := hba.gp hg5 hwp
      have hy5 := var_gby hyv.out hg5 hpy
      have N2 := Lib.hid (now_any w5 p s' h5)
      have B2 := Lib.hid (base_any w5 p s' h5)
      rw [hy] at hy5
      clear hg5 N1 D1 hsa hAa hba hyv q0 q1 q2 q3
      have e0 := cell_at hy5 0
      simp only [List.getElem?_toArray, List.getElem?_cons_zero] at e0
      have hcn := hcut
      replace hcn := Lib.hid hcn
      by_cases hlt2 : s'.n < s.n
      · obtain ⟨r1, r2, r3⟩ := hca.out hlt2
        have hd2 : decide (s'.n < s.n) = true := decide_eq_true hlt2
        have hOkk := hOk'.out
        unfold Ok at hOkk
        cases cut with
        | true =>
          have hx1 := (hcn.out rfl).2
          have hx2 := r3 (hcn.out rfl).1
          have hwl : IntKind.i64.wrap (last + s'.ba) = last + s'.ba := by rw [IntKind.wrap_i64]; omega
          have hd3 : decide (t < last + s'.ba) = false := decide_eq_false (by omega)
          have hsn := Lib.hid h5
          clear h5 hOkk
          go_wp2_with fail
          refine N2.out.mono ?_
          rintro e w6 ⟨rfl, rfl⟩
          go_wp2_with fail
          go_quiet ((go_at_call 11; exact Calls.quiet_of_same (q_of (base_any _ p s' (by first | exact hsn.out | exact hsn.out.bl (Bl.drewN _ _))))))
          go_wp2_with fail
          go_roundw
          case rel => exact ⟨k + 1, s', true, t, by omega, by go_num, rfl, rfl, hOk'.out, fun _ => ⟨r1, by omega⟩, by omega, by omega, hsn.out.bl (Bl.drewN _ _), hA5.bl (Bl.drewN _ _), hb5.drn _⟩
          case measure => simp [intOf]; omega
        | false =>
          have hsn := Lib.hid h5
          clear h5 hOkk
          go_wp2_with fail
          refine N2.out.mono ?_
          rintro e w6 ⟨rfl, rfl⟩
          go_wp2_with fail
          go_quiet (fail)
          go_wp2_with fail
          go_roundw
          case rel => exact ⟨k + 1, s', true, t, by omega, by go_num, rfl, rfl, hOk'.out, fun _ => ⟨r1, by omega⟩, by omega, by omega, hsn.out.bl (Bl.drewN _ _), hA5.bl (Bl.drewN _ _), hb5.drn _⟩
          case measure => simp [intOf]; omega
      · have hd2 : decide (s'.n < s.n) = false := decide_eq_false hlt2
        have hsn := Lib.hid h5
        clear h5
        go_wp2_with fail
        refine N2.out.mono ?_
        rintro e w6 ⟨rfl, rfl⟩
        go_wp2_with fail
        go_roundw
        case rel => exact ⟨k + 1, s', cut, last, by omega, by go_num, rfl, rfl, hOk'.out, fun hh => ⟨(hcl.out hh).1, by have := (hcl.out hh).2; have := (hcn.out hh).2; omega⟩, by omega, by omega, hsn.out, hA5, hb5⟩
        case measure => simp [intOf]; omega
    · obtain rfl : k = N := by omega
      go_wp2_with fail
      refine (lives21 _).mono ?_
      rintro e w9 ⟨rfl, hb9⟩
      go_wp2_with fail
      go_ret
      exact ⟨rfl, hbr.tr hb9⟩
end Go.Proofs.Ytdfbipfgcfajbaa.adaptApart
