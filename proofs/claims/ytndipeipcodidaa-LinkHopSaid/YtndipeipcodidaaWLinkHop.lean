/-
  LinkHop is true for every input: a message comes never, once or twice, not ahead of its tick and the hop; twice with one tick between. No condition.
-/
import Derived.Test.YtndipeipcodidaaLinI
namespace Go.Proofs.Ytndipeipcodidaa.linkHop
open Go.ChangeShapes Go.WideShapes Go.ChangeAt Go.RowKit
open Go.Proofs.Ytndipeipcodidaa.link
set_option linter.unusedVariables false
set_option linter.unusedSimpArgs false

set_option maxHeartbeats 8000000 in
set_option maxRecDepth 20000 in
theorem walk {w : World} (v0 : Value) (z0 : List Int) (hv0 : IntsAt w v0 z0) (hz0 : i64ok z0) (hm0 : z0.length ≤ maxLen) (v1 : Value) (z1 : List Int) (hv1 : IntsAt w v1 z1) (hz1 : i64ok z1) (hm1 : z1.length ≤ maxLen) (n : Int) (l0 : -9223372036854775808 ≤ n) (u0 : n ≤ 9223372036854775807) :
    Calls Try.prog 5 #[v0, v1, .int .i64 n] w fun e w' => e = .returned (.bool true) ∧ Bl w w' := by
  have A0 := fun w => around_any n 5 w l0 u0 (by omega) (by omega)
  have a0 := around_lo n 5 (by omega); have a1 := around_hi n 5 (by omega)
  obtain ⟨h', hh'⟩ : ∃ z, around n 5 = z := ⟨_, rfl⟩
  rw [hh'] at A0 a0 a1
  obtain ⟨h, hh⟩ : ∃ z, 1 + h' = z := ⟨_, rfl⟩
  have b0 : 1 ≤ h := by omega
  have b1 : h ≤ 5 := by omega
  have FS := Lib.hid (faults_any z0 v0 w hv0 hz0 hm0)
  have MS := Lib.hid (fun w (hv : IntsAt w v1 z1) => msgs_any z1 v1 w hv hz1 hm1)
  have hv1' := Lib.hid hv1
  have LV := Lib.hid lives_any
  replace A0 := Lib.hid A0
  clear hh' hv0 hv1 hz0 hz1 hm0 hm1
  go_enter Try.func5, Try.ntmps5
  go_wp2_with fail
  refine (A0.out _).mono ?_
  rintro e w' ⟨rfl, rfl⟩
  go_wp2_with fail
  clear hh a0 a1
  refine FS.out.mono ?_
  rintro e w1 ⟨aF, cF, gF, F, rfl, hcF, hokF, hgF, hF, hb1⟩
  obtain ⟨hFl, hFF⟩ := hokF
  replace hFF := Lib.hid hFF; replace hb1 := Lib.hid hb1
  clear FS
  go_wp2_with fail
  refine (new_ls w1 h gF aF cF F hF (by omega) hcF).mono ?_
  rintro e w2 ⟨p, rfl, hp, hL, hb2⟩
  have hwp : w.heap.size ≤ p := by have := hb1.out.size; omega
  replace hb1 := Lib.hid (hb1.out.tr hb2); replace hL := Lib.hid hL
  clear hF hb2 hp hgF
  go_wp2_with fail
  refine (MS.out w2 (hv1'.out.below hb1.out)).mono ?_
  rintro e w3 ⟨aM, cM, gM, M, rfl, hokM, hgM, hM, hb3⟩
  obtain ⟨hMl, hMM⟩ := hokM
  have hgp : gM ≠ p := by have := hL.out.lt; omega
  replace hL := Lib.hid (hL.out.bl hb3); replace hb1 := Lib.hid (hb1.out.tr hb3); replace hM := Lib.hid hM; replace hMM := Lib.hid hMM
  clear hb3 MS hv1' hgM
  go_wp2_with fail
  obtain ⟨N, hN⟩ : ∃ z, M.length = z := ⟨_, rfl⟩
  rw [hN] at hMl ⊢
  replace hN := Lib.hid hN
  go_loopw [10] (fun i wr => ∃ (j : Nat) (cnt : List Int), j ≤ N ∧ i = I j ∧ okC j cnt ∧ LS wr p h F cnt ∧ MRow wr gM aM M ∧ Bl w wr) (fun i _ => N - (intOf i).toNat)
  case atStart => exact ⟨0, _, by omega, rfl, okC0 0 (by decide), hL.out, hM.out, hb1.out⟩
  case round =>
    obtain ⟨j, cnt, hjN, rfl, hok, hLS, hMR, hbr⟩ := hrel
    clear hL hM hb1
    by_cases hlt : j < N
    · obtain ⟨rfl, q0, q1, q2⟩ := hMR.c j (by rw [hN.out]; exact hlt)
      have hxm : okM (M.getD j ms0) := hMM.out _ (getD_mem M j ms0 (by rw [hN.out]; exact hlt))
      obtain ⟨x, hx⟩ : ∃ z, M.getD j ms0 = z := ⟨_, rfl⟩
      rw [hx] at q0 q1 q2 hxm
      obtain ⟨t, u, v⟩ := x
      obtain ⟨t0, t1⟩ := hxm
      simp only at q0 q1 q2 t0 t1
      have hd := (Bl.rfl' wr).dr
      obtain ⟨wd, hwd⟩ : ∃ zz, wr.drew = zz := ⟨_, rfl⟩
      rw [hwd] at hd
      have SD := send_ls wd p h F cnt t u v j (hLS.bl hd) (by omega) (fun x hx => (hFF.out x hx).f) hok (by omega) t0 (by omega) (by omega) (by omega)
      have K := sq_ok (A := F) (now := t) (u := u) (v := v) (hop := h) hok
      have S0 := sq_at (A := F) (now := t) (u := u) (v := v) (hop := h) (cnt := cnt) (fun x hx => (hFF.out x hx).f) hFl
      obtain ⟨s, hs⟩ : ∃ z, sq F t u v h cnt = z := ⟨_, rfl⟩
      rw [hs] at SD K S0
      have hMd := hMR.bl hd
      obtain ⟨_, k0, k1, k2⟩ := hMd.c j (by rw [hN.out]; exact hlt)
      rw [hx] at k0 k1 k2
      simp only at k0 k1 k2
      replace hx := Lib.hid hx
      have hbd := hbr.tr hd
      replace SD := Lib.hid SD; replace K := Lib.hid K; replace hMd := Lib.hid hMd; replace hbd := Lib.hid hbd; replace hwd := Lib.hid hwd
      clear hs hok hLS hMR hbr hd
      go_upto_region 7 with fail
      refine wp_region_still_tail 16 (by kernel_rfl) (by kernel_rfl) ?_
      simp only [List.take_succ_cons, List.take_zero, List.drop_succ_cons, List.drop_zero]
      change wpStill _ _ wr.drew (fun a' => wpList _ _ _ _ a' wr.drew) _ _
      rw [hwd.out]
      repeat still_step
      try refine wpStill_nil ?_
      go_wp2_with fail
      refine SD.out.mono ?_
      rintro e w5 ⟨vr, rfl, ho, hL5, hg⟩
      have hM5 := hMd.out.gby hg hgp
      have hbr5 := Lib.hid (hbd.out.gp hg hwp)
      obtain ⟨_, q0, q1, q2⟩ := hM5.c j (by rw [hN.out]; exact hlt)
      rw [hx.out] at q0 q1 q2
      simp only at q0 q1 q2
      replace hL5 := Lib.hid hL5; replace hM5 := Lib.hid hM5
      clear hg hMd hbd SD k0 k1 k2
      obtain ⟨at_, hat⟩ : ∃ z, s.at_ = z := ⟨_, rfl⟩
      obtain ⟨c', hc'⟩ : ∃ z, s.cnt = z := ⟨_, rfl⟩
      have hsh := sent_shape s
      rw [hat] at S0 hsh
      rw [hc'] at K hL5
      obtain ⟨s0, s1⟩ := S0
      clear hat hc' hwd hx
      rcases hsh with hsh | hsh | hsh
      · rw [hsh] at ho
        obtain ⟨a5, g5, c5, rfl, hb5, R5⟩ := ho.cells
        clear hsh ho
        simp only [List.length_nil, List.length_cons, Nat.zero_add] at R5 ⊢
        clear R5
        go_wp2_with fail
        go_quiet (fail)
        go_wp2_with fail
        go_roundw
        case rel => exact ⟨j + 1, c', by omega, by go_num, by have := K.out; rwa [show ((j + 1 : Nat) : Int) = (j : Int) + 1 by omega], hL5.out.bl (Bl.drewN _ _), hM5.out.bl (Bl.drewN _ _), hbr5.out.drn _⟩
        case measure => simp [intOf]; omega
      · rw [hsh] at ho
        obtain ⟨a5, g5, c5, rfl, hb5, R5⟩ := ho.cells
        clear hsh ho
        simp only [List.length_nil, List.length_cons, Nat.zero_add] at R5 ⊢
        obtain ⟨rfl, r0⟩ := R5 0 (by omega)
        rw [List.getD_cons_zero] at r0
        have e0 : decide (at_ < t + h) = false := decide_eq_false (by omega)
        have e1 : IntKind.i64.wrap (t + h) = t + h := by rw [IntKind.wrap_i64]; omega
        clear R5
        go_wp2_with fail
        go_quiet (fail)
        go_wp2_with fail
        go_roundw
        case rel => exact ⟨j + 1, c', by omega, by go_num, by have := K.out; rwa [show ((j + 1 : Nat) : Int) = (j : Int) + 1 by omega], hL5.out.bl (Bl.drewN _ _), hM5.out.bl (Bl.drewN _ _), hbr5.out.drn _⟩
        case measure => simp [intOf]; omega
      · rw [hsh] at ho
        obtain ⟨a5, g5, c5, rfl, hb5, R5⟩ := ho.cells
        clear hsh ho
        simp only [List.length_nil, List.length_cons, Nat.zero_add] at R5 ⊢
        obtain ⟨rfl, r0⟩ := R5 0 (by omega)
        rw [List.getD_cons_zero] at r0
        have e0 : decide (at_ < t + h) = false := decide_eq_false (by omega)
        have e1 : IntKind.i64.wrap (t + h) = t + h := by rw [IntKind.wrap_i64]; omega
        obtain ⟨_, r1⟩ := R5 1 (by omega)
        rw [List.getD_cons_succ, List.getD_cons_zero] at r1
        have e2 : IntKind.i64.wrap (at_ + 1) = at_ + 1 := by rw [IntKind.wrap_i64]; omega
        clear R5
        go_wp2_with fail
        go_quiet (fail)
        go_wp2_with fail
        go_roundw
        case rel => exact ⟨j + 1, c', by omega, by go_num, by have := K.out; rwa [show ((j + 1 : Nat) : Int) = (j : Int) + 1 by omega], hL5.out.bl (Bl.drewN _ _), hM5.out.bl (Bl.drewN _ _), hbr5.out.drn _⟩
        case measure => simp [intOf]; omega
    · obtain rfl : j = N := by omega
      replace hbr := Lib.hid hbr
      clear hok hLS hMR
      go_wp2_with fail
      refine (LV.out _).mono ?_
      rintro e w5 ⟨rfl, hb5⟩
      go_wp2_with fail
      go_ret
      exact ⟨rfl, hbr.out.tr hb5⟩
end Go.Proofs.Ytndipeipcodidaa.linkHop
