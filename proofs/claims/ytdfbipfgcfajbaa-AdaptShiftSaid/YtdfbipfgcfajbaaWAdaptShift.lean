/-
  AdaptShift is true for every input: the same that is done so many ticks later leads to the same limits. No condition.
-/
import Derived.Test.YtdfbipfgcfajbaaAdaD
namespace Go.Proofs.Ytdfbipfgcfajbaa.adaptShift
open Go.ChangeShapes Go.WideShapes Go.ChangeAt Go.RowKit
open Go.Proofs.Ytdfbipfgcfajbaa.adapt
set_option linter.unusedVariables false
set_option linter.unusedSimpArgs false

/-- The same limit, so many ticks later. -/
def Sh (k : Int) (s s' : Lim) : Prop := s'.n = s.n ∧ s'.lo = s.lo ∧ s'.hi = s.hi ∧ s'.ba = s.ba ∧ s'.ct = s.ct ∧ (s.ct = true → s'.ca = s.ca + k)
theorem sh_done {k : Int} {s s' : Lim} {now under took : Int} {well : Bool} (h : Sh k s s') : Sh k (done s now under took well) (done s' (now + k) under took well) := by
  obtain ⟨n, lo, hi, ba, ct, ca⟩ := s
  obtain ⟨n', lo', hi', ba', ct', ca'⟩ := s'
  unfold Sh at h
  simp only at h
  obtain ⟨rfl, rfl, rfl, rfl, rfl, hc⟩ := h
  unfold Sh done rise fall based
  simp only
  cases ct' with
  | true =>
    have hca := hc rfl
    subst hca
    repeat' split
    all_goals (try simp only at *)
    all_goals first | (simp_all; done) | omega | (simp_all; omega)
  | false =>
    repeat' split
    all_goals (try simp only at *)
    all_goals first | (simp_all; done) | omega | (simp_all; omega)

theorem y_cells {w : World} {y : Nat} {a b c : Int} {f : Bool} {t : TypeId} (h : w.heap[y]? = some (.cells #[I a, I b, I c, .bool f] t (0, 0))) : w.cell? ⟨y, 0, none⟩ = some (I a) ∧ w.cell? ⟨y, 1, none⟩ = some (I b) ∧ w.cell? ⟨y, 2, none⟩ = some (I c) ∧ w.cell? ⟨y, 3, none⟩ = some (.bool f) := by
  refine ⟨?_, ?_, ?_, ?_⟩ <;> simp [World.cell?, h]
set_option maxHeartbeats 8000000 in
set_option maxRecDepth 20000 in
theorem walk {w : World} (n : Int) (n0 : -9223372036854775808 ≤ n) (n1 : n ≤ 9223372036854775807) (v : Value) (z : List Int) (hv : IntsAt w v z) (hz : i64ok z) (hm : z.length ≤ maxLen) (f : Int) (f0 : -9223372036854775808 ≤ f) (f1 : f ≤ 9223372036854775807) :
    Calls Try.prog 6 #[.int .i64 n, v, .int .i64 f] w fun e w' => e = .returned (.bool true) ∧ Bl w w' := by
  have Ac := Lib.hid (fun w' (hb : Bl w w') => acts_any z v w' (Rd.below hv hb) hz hm)
  clear hv hz hm
  have Bw := Lib.hid (fun w => between_any n w n0 n1)
  have A0 := fun w => around_any f 1001 w f0 f1 (by omega) (by omega)
  have j0 := around_lo f 1001 (by omega); have j1 := around_hi f 1001 (by omega)
  obtain ⟨j, hj⟩ : ∃ t, around f 1001 = t := ⟨_, rfl⟩
  rw [hj] at A0 j0 j1
  replace A0 := Lib.hid A0
  clear hj f0 f1
  go_enter Try.func6, Try.ntmps6
  go_wp2_with fail
  refine (Bw.out _).mono ?_
  rintro e w1 ⟨lo, hi, rfl, lo0, lo1, hi0, hi1, hb1⟩
  go_wp2_with fail
  refine (new_any lo hi _).mono ?_
  rintro e w2 ⟨p, rfl, hp, h, hb2⟩
  have hb0 := hb1.tr hb2
  have hwp : w.heap.size ≤ p := by have := hb1.size; omega
  go_wp2_with fail
  refine (new_any lo hi _).mono ?_
  rintro e w3 ⟨p2, rfl, hp2, h2, hb3⟩
  have hpp : p ≠ p2 := by have := h.lt; omega
  have hwp2 : w.heap.size ≤ p2 := by have := hb0.size; omega
  replace h := h.bl hb3
  replace hb0 := hb0.tr hb3
  have Ac2 := Lib.hid (Ac.out w3 hb0)
  go_wp2_with fail
  refine (A0.out _).mono ?_
  rintro e w4 ⟨rfl, rfl⟩
  go_wp2_with fail
  refine Ac2.out.mono ?_
  rintro e w4 ⟨a, cap, g, A, rfl, hA30, hAo, hg, hAr, hb4⟩
  have hpg : g ≠ p := by have := h.lt; omega
  have hpg2 : g ≠ p2 := by have := h2.lt; omega
  replace h := h.bl hb4
  replace h2 := h2.bl hb4
  replace hb0 := hb0.tr hb4
  obtain ⟨N, hN⟩ : ∃ zz, A.length = zz := ⟨_, rfl⟩
  have hAA : ∀ i, i < N → okA (A.getD i ac0) := fun i hi => hAo _ (by
    rw [List.getD_eq_getElem?_getD, List.getElem?_eq_getElem (by omega)]; exact List.getElem_mem _)
  rw [hN] at hA30 ⊢
  replace hN := Lib.hid hN; replace hAA := Lib.hid hAA
  clear hAo
  clear hb1 hb2 hb3 hb4 hp hp2 Ac2 hg
  go_wp2_with fail
  go_loopw [13] (fun i wr => ∃ (k : Nat) (s s2 : Lim), k ≤ N ∧ i = I k ∧ Ok s ∧ Ok s2 ∧ Sh j s s2 ∧ AB wr p s ∧ AB wr p2 s2 ∧ ARow wr g a A ∧ Bl w wr) (fun i _ => N - (intOf i).toNat)
  case atStart => exact ⟨0, _, _, by omega, rfl, by unfold Ok; simp only; omega, by unfold Ok; simp only; omega, ⟨rfl, rfl, rfl, rfl, rfl, fun h => by simp at h⟩, h, h2, hAr, hb0⟩
  case round =>
    obtain ⟨k, s, s2, hkN, rfl, hOk, hOk2, hSh, hs, hs2, hA, hbr⟩ := hrel
    clear h h2 hAr hb0
    by_cases hlt : k < N
    · obtain ⟨rfl, q0, q1, q2, q3⟩ := hA.c k (by rw [hN.out]; exact hlt)
      have hoa := hAA.out k hlt
      obtain ⟨xx, hxx⟩ : ∃ q, A.getD k ac0 = q := ⟨_, rfl⟩
      rw [hxx] at q0 q1 q2 q3 hoa
      obtain ⟨t, u, tk, wl⟩ := xx
      obtain ⟨t0, t1, u0, u1, tk0, tk1⟩ := hoa
      simp only at q0 q1 q2 q3 t0 t1 u0 u1 tk0 tk1
      clear hxx
      have hal := (Bl.rfl' wr).al (.cells #[I t, I u, I tk, .bool wl] 30)
      have hsa := hs.bl hal
      have hsa2 := hs2.bl hal
      have hyv := heap_alloc_new wr (.cells #[I t, I u, I tk, .bool wl] 30)
      have D1 := Lib.hid (done_any _ p s t u tk wl hsa hOk.l t0 (by omega) (by omega) (by omega))
      have D2 := Lib.hid (fun w' h => done_any w' p2 s2 (t + j) u tk wl h hOk2.l (by omega) (by omega) (by omega) (by omega))
      have hOk' := done_ok (under := u) (well := wl) hOk t0 (show t ≤ 10000 by omega) (show 0 ≤ tk by omega) (show tk ≤ 30 by omega)
      have hOk2' := done_ok (now := t + j) (under := u) (well := wl) hOk2 (by omega) (show t + j ≤ 10000 by omega) (show 0 ≤ tk by omega) (show tk ≤ 30 by omega)
      have hSh' := sh_done (now := t) (under := u) (took := tk) (well := wl) hSh
      obtain ⟨s', hs'⟩ : ∃ zz, done s t u tk wl = zz := ⟨_, rfl⟩
      obtain ⟨s2', hs2'⟩ : ∃ zz, done s2 (t + j) u tk wl = zz := ⟨_, rfl⟩
      rw [hs'] at D1 hOk' hSh'
      rw [hs2'] at hOk2' hSh'
      simp only [hs2'] at D2
      have hAa := hA.bl hal
      have hba := hbr.tr hal
      have hpy : wr.heap.size ≠ p := by have := hs.lt; omega
      have hpy2 : wr.heap.size ≠ p2 := by have := hs2.lt; omega
      have hShh := Lib.hid hSh'
      obtain ⟨e1, _, _, e2, _, _⟩ := hSh'
      obtain ⟨y, hy⟩ : ∃ zz, wr.heap.size = zz := ⟨_, rfl⟩
      clear hs' hs2' hs hs2 hal
      replace hyv := Lib.hid hyv; replace hAa := Lib.hid hAa; replace hOk' := Lib.hid hOk'; replace hOk2' := Lib.hid hOk2'; replace hsa2 := Lib.hid hsa2
      replace e1 := Lib.hid e1; replace e2 := Lib.hid e2
      go_wp2_with fail
      refine D1.out.mono ?_
      rintro e w5 ⟨rfl, h5, hg5⟩
      have hA5 := hAa.out.gby hg5 hpg
      have hb5 := hba.gp hg5 hwp
      have hy5 := var_gby hyv.out hg5 hpy
      have h25 := hsa2.out.gby hg5 (fun e => hpp e.symm)
      have D2' := Lib.hid (D2.out w5 h25)
      rw [hy] at hy5
      clear hg5 D1 D2 hsa hAa hba hyv q0 q1 q2 q3 hsa2
      have e0 := y_cells hy5
      obtain ⟨z0, z1, z2, z3⟩ := e0
      replace h5 := Lib.hid h5
      clear h25
      go_wp2_with fail
      refine D2'.out.mono ?_
      rintro e w6 ⟨rfl, h26, hg6⟩
      have h6 := h5.out.gby hg6 hpp
      have hA6 := hA5.gby hg6 hpg2
      have hb6 := hb5.gp hg6 hwp2
      have N1 := Lib.hid (now_any w6 p s' h6)
      have B1 := Lib.hid (base_any w6 p s' h6)
      have N2 := now_any w6 p2 s2' h26
      have B2 := base_any w6 p2 s2' h26
      rw [e1.out] at N2; rw [e2.out] at B2
      replace N2 := Lib.hid N2; replace B2 := Lib.hid B2
      have hn1 : (s'.n != s'.n) = false := by simp
      have hn2 : (s'.ba != s'.ba) = false := by simp
      replace h6 := Lib.hid h6; replace h26 := Lib.hid h26
      clear hg6 D2' h5 hA5 hb5 hy5 z0 z1 z2 z3
      go_wp2_with fail
      refine N1.out.mono ?_
      rintro e w7 ⟨rfl, rfl⟩
      go_wp2_with fail
      refine N2.out.mono ?_
      rintro e w7 ⟨rfl, rfl⟩
      go_wp2_with fail
      refine B1.out.mono ?_
      rintro e w7 ⟨rfl, rfl⟩
      go_wp2_with fail
      refine B2.out.mono ?_
      rintro e w7 ⟨rfl, rfl⟩
      go_wp2_with fail
      go_roundw
      case rel => exact ⟨k + 1, s', s2', by omega, by go_num, hOk'.out, hOk2'.out, hShh.out, h6.out, h26.out, hA6, hb6⟩
      case measure => simp [intOf]; omega
    · obtain rfl : k = N := by omega
      go_wp2_with fail
      refine (lives21 _).mono ?_
      rintro e w9 ⟨rfl, hb9⟩
      go_wp2_with fail
      go_ret
      exact ⟨rfl, hbr.tr hb9⟩
end Go.Proofs.Ytdfbipfgcfajbaa.adaptShift
