/-
  LinkSends is true for every input: when each message comes is the document's. No condition.
-/
import Derived.Test.YtndipeipcodidaaLinL
import Derived.Test.YtndipeipcodidaaSame
import Derived.Deep.RegionHeldLaw
namespace Go.Proofs.Ytndipeipcodidaa.linkSends
open Go.ChangeShapes Go.WideShapes Go.ChangeAt Go.RowKit
open Go.Proofs.Ytndipeipcodidaa.link
set_option linter.unusedVariables false
set_option linter.unusedSimpArgs false

theorem take_getD (l : List Int) (n i : Nat) (h : i < n) : (l.take n).getD i 0 = l.getD i 0 := by
  rw [List.getD_eq_getElem?_getD, List.getD_eq_getElem?_getD, List.getElem?_take_of_lt h]
theorem rep0 (i : Nat) : (List.replicate 40 (0 : Int)).getD i 0 = 0 := by
  rw [List.getD_eq_getElem?_getD, List.getElem?_replicate]; split <;> rfl
theorem frow_ne {w : World} {g p : Nat} {a : Option Addr} {A : List Flt} (h : FRow w g a A) (hp : w.heap.size ≤ p) : ∃ g', g' ≠ p ∧ FRow w g' a A := by
  by_cases h0 : 0 < A.length
  · obtain ⟨-, cur, T, h1, -⟩ := h h0
    have := lt_of_block h1
    exact ⟨g, by omega, h⟩
  · exact ⟨p + 1, by omega, fun h => absurd h h0⟩

set_option maxHeartbeats 8000000 in
set_option maxRecDepth 20000 in
theorem walk {w : World} (v0 : Value) (z0 : List Int) (hv0 : IntsAt w v0 z0) (hz0 : i64ok z0) (hm0 : z0.length ≤ maxLen) (v1 : Value) (z1 : List Int) (hv1 : IntsAt w v1 z1) (hz1 : i64ok z1) (hm1 : z1.length ≤ maxLen) (n : Int) (l0 : -9223372036854775808 ≤ n) (u0 : n ≤ 9223372036854775807) :
    Calls Try.prog 3 #[v0, v1, .int .i64 n] w fun e w' => e = .returned (.bool true) ∧ Bl w w' := by
  have A0 := fun w => around_any n 5 w l0 u0 (by omega) (by omega)
  have a0 := around_lo n 5 (by omega); have a1 := around_hi n 5 (by omega)
  obtain ⟨h', hh'⟩ : ∃ z_, (around n 5) = z_ := ⟨_, rfl⟩
  rw [hh'] at A0 a0 a1
  obtain ⟨h, hh⟩ : ∃ z_, (1 + h') = z_ := ⟨_, rfl⟩
  have b0 : 1 ≤ h := by omega
  have b1 : h ≤ 5 := by omega
  have FS := Lib.hid (faults_any z0 v0 w hv0 hz0 hm0)
  have MS := Lib.hid (fun w (hv : IntsAt w v1 z1) => msgs_any z1 v1 w hv hz1 hm1)
  have hv1' := Lib.hid hv1
  have LV := Lib.hid lives_any
  replace A0 := Lib.hid A0
  clear hh' hv0 hv1 hz0 hz1 hm0 hm1
  go_enter Try.func3, Try.ntmps3
  go_wp2_with fail
  with_reducible refine (FS.out).mono ?_
  rintro e w1 ⟨aF, cF, gF, F, rfl, hcF, hokF, hgF, hF, hb1⟩
  obtain ⟨hFl, hFF⟩ := hokF
  replace hFF := Lib.hid hFF
  replace hb1 := Lib.hid hb1
  clear FS
  go_wp2_with fail
  with_reducible refine (A0.out _).mono ?_
  rintro e w' ⟨rfl, rfl⟩
  go_wp2_with fail
  clear hh a0 a1
  with_reducible refine (new_ls w1 h gF aF cF F hF (by omega) hcF).mono ?_
  rintro e w2 ⟨p, rfl, hp, hL, hb2⟩
  have hwp : w.heap.size ≤ p := by have := hb1.out.size; omega
  obtain ⟨gF, hgF, hF⟩ := frow_ne hF hp
  replace hb1 := Lib.hid (hb1.out.tr hb2)
  replace hF := Lib.hid (hF.bl hb2)
  replace hL := Lib.hid hL
  clear hb2 hp
  go_wp2_with fail
  with_reducible refine (MS.out w2 (hv1'.out.below hb1.out)).mono ?_
  rintro e w3 ⟨aM, cM, gM, M, rfl, hokM, hgM, hM, hb3⟩
  obtain ⟨hMl, hMM⟩ := hokM
  have hgp : gM ≠ p := by have := hL.out.lt; omega
  have hp3 : p < w3.heap.size := by have := hL.out.lt; have := hb3.size; omega
  replace hL := Lib.hid (hL.out.bl hb3)
  replace hb1 := Lib.hid (hb1.out.tr hb3)
  replace hF := Lib.hid (hF.out.bl hb3)
  replace hM := Lib.hid hM
  replace hMM := Lib.hid hMM
  clear hb3 MS hv1' hgM
  go_wp2_with fail
  obtain ⟨N, hN⟩ : ∃ z_, (M.length) = z_ := ⟨_, rfl⟩
  rw [hN] at hMl ⊢
  obtain ⟨L, hLl⟩ : ∃ z_, (F.length) = z_ := ⟨_, rfl⟩
  simp only [hLl] at hFl hcF ⊢
  replace hN := Lib.hid hN
  replace hLl := Lib.hid hLl
  go_loopw [10, 12] (fun vc i wr => ∃ (j : Nat) (cnt z : List Int), j ≤ N ∧ i = I j ∧ okC j cnt ∧ z.length ≤ 8 ∧ (∀ i, i < L → z.getD i 0 = cnt.getD i 0) ∧ Own wr w3.heap.size vc z ∧ LS wr p h F cnt ∧ MRow wr gM aM M ∧ FRow wr gF aF F ∧ Bl w wr ∧ w3.heap.size ≤ wr.heap.size) (fun _ i _ => N - (intOf i).toNat)
  case atStart => exact ⟨0, _, [], by omega, rfl, okC0 0 (by decide), by simp, fun i hi => (rep0 i).symm, World.ownsRow_nil _ _ _ _, hL.out, hM.out, hF.out, hb1.out, Nat.le_refl _⟩
  case round =>
    obtain ⟨j, cnt, z, hjN, rfl, hok, hzl, hzc, hvc, hLS, hMR, hFR, hbr, hs3⟩ := hrel
    clear hL hM hb1 hF
    by_cases hlt : j < N
    · have hMd := hMR.bl (Bl.rfl' wr).dr
      obtain ⟨rfl, q0, q1, q2⟩ := hMd.c j (by rw [hN.out]; exact hlt)
      have hxm : okM (M.getD j ms0) := hMM.out _ (getD_mem M j ms0 (by rw [hN.out]; exact hlt))
      obtain ⟨x, hx⟩ : ∃ z_, (M.getD j ms0) = z_ := ⟨_, rfl⟩
      rw [hx] at q0 q1 q2 hxm
      obtain ⟨t, u, v⟩ := x
      obtain ⟨t0, t1⟩ := hxm
      simp only at q0 q1 q2 t0 t1
      have hM3 : ∀ w', MRow w' gM (some ⟨gM, 0, none⟩) M → w'.cell? ⟨gM, j * 3, none⟩ = some (I t) ∧ w'.cell? ⟨gM, j * 3 + 1, none⟩ = some (I u) ∧ w'.cell? ⟨gM, j * 3 + 2, none⟩ = some (I v) := fun w' hm => by
        have := (hm.c j (by rw [hN.out]; exact hlt)).2
        rw [hx] at this
        exact this
      have SR := sendR_any wr.drew gF h aF cF F cnt _ z t u v j (hFR.bl (Bl.rfl' wr).dr) (by rw [hLl.out]; exact hFl) hFF.out hok (by rw [hLl.out]; exact hzc) hzl (hvc.bl (Bl.rfl' wr).dr).ints (by omega) t0 (by omega) (by omega) (by omega)
      have SX := fun w' (hl : LS w' p h F cnt) => send_ls w' p h F cnt t u v j hl (by rw [hLl.out]; omega) (fun x hx => (hFF.out x hx).f) hok (by omega) t0 (by omega) (by omega) (by omega)
      have hK := sq_ok (A := F) (now := t) (u := u) (v := v) (hop := h) hok
      have hsh := sent_shape (sq F t u v h cnt)
      unfold SendRD at SR
      obtain ⟨s, hs⟩ : ∃ z_, (sq F t u v h cnt) = z_ := ⟨_, rfl⟩
      rw [hs] at SR hK hsh
      simp only [hs, hLl.out] at SR SX
      have hsl : (sent s).length ≤ maxLen := by unfold maxLen; rcases hsh with h | h | h <;> (rw [h]; simp)
      have hLd := hLS.bl (Bl.rfl' wr).dr
      have hFd := hFR.bl (Bl.rfl' wr).dr
      have hbd := hbr.dr
      have hs3d : w3.heap.size ≤ wr.drew.heap.size := hs3
      clear hok hvc hLS hMR hFR hs hsh hzc hzl hbr hx
      replace SR := Lib.hid SR
      replace SX := Lib.hid SX
      replace hK := Lib.hid hK
      replace hLd := Lib.hid hLd
      replace hFd := Lib.hid hFd
      replace hbd := Lib.hid hbd
      replace hMd := Lib.hid hMd
      replace hM3 := Lib.hid hM3
      go_upto_region 9 with fail
      refine wp_region_held_drew (S := fun w' => w'.cell? ⟨gM, j * 3, none⟩ = some (I t) ∧ w'.cell? ⟨gM, j * 3 + 1, none⟩ = some (I u) ∧ w'.cell? ⟨gM, j * 3 + 2, none⟩ = some (I v)) (by kernel_rfl) ?_ (fun hHeld => ?_)
      · exact hM3.out _ hMd.out
      refine wpAnyH_take (i := 0) (v := ?v0_1) rfl (by kernel_rfl) (by kernel_rfl) (by kernel_rfl) (fun _ _ _ h => h) (Or.inl ⟨by rfl, ?y0_1⟩) hHeld ?r0_1
      case y0_1 => (intro w hSw; (try dsimp only at hSw); go_split_ands; go_simp; try with_reducible rfl)
      try simp only [List.getElem_toArray, List.getElem_cons_succ, List.getElem_cons_zero, Act.put, List.setIfInBounds_toArray, List.set_cons_zero, List.set_cons_succ]
      refine wpAnyH_take (i := 1) (v := ?v1_2) rfl (by kernel_rfl) (by kernel_rfl) (by kernel_rfl) (fun _ _ _ h => h) (Or.inl ⟨by rfl, ?y1_2⟩) hHeld ?r1_2
      case y1_2 => (intro w hSw; (try dsimp only at hSw); go_split_ands; go_simp; try with_reducible rfl)
      try simp only [List.getElem_toArray, List.getElem_cons_succ, List.getElem_cons_zero, Act.put, List.setIfInBounds_toArray, List.set_cons_zero, List.set_cons_succ]
      refine wpAnyH_take (i := 2) (v := ?v2_3) rfl (by kernel_rfl) (by kernel_rfl) (by kernel_rfl) (fun _ _ _ h => h) (Or.inl ⟨by rfl, ?y2_3⟩) hHeld ?r2_3
      case y2_3 => (intro w hSw; (try dsimp only at hSw); go_split_ands; go_simp; try with_reducible rfl)
      try simp only [List.getElem_toArray, List.getElem_cons_succ, List.getElem_cons_zero, Act.put, List.setIfInBounds_toArray, List.set_cons_zero, List.set_cons_succ]
      refine wpAnyH_take (i := 3) (v := ?v3_4) rfl (by kernel_rfl) (by kernel_rfl) (by kernel_rfl) (fun _ _ _ h => h) (Or.inl ⟨by rfl, ?y3_4⟩) hHeld ?r3_4
      case y3_4 => (intro w hSw; (try dsimp only at hSw); go_split_ands; go_simp; try with_reducible rfl)
      try simp only [List.getElem_toArray, List.getElem_cons_succ, List.getElem_cons_zero, Act.put, List.setIfInBounds_toArray, List.set_cons_zero, List.set_cons_succ]
      refine wpAnyH_take (i := 4) (v := ?v4_5) rfl (by kernel_rfl) (by kernel_rfl) (by kernel_rfl) (fun _ _ _ h => h) (Or.inl ⟨by rfl, ?y4_5⟩) hHeld ?r4_5
      case y4_5 => (intro w hSw; (try dsimp only at hSw); go_split_ands; go_simp; try with_reducible rfl)
      try simp only [List.getElem_toArray, List.getElem_cons_succ, List.getElem_cons_zero, Act.put, List.setIfInBounds_toArray, List.set_cons_zero, List.set_cons_succ]
      refine wpAnyH_take (i := 5) (v := ?v5_6) rfl (by kernel_rfl) (by kernel_rfl) (by kernel_rfl) (fun _ _ _ h => h) (Or.inl ⟨by rfl, ?y5_6⟩) hHeld ?r5_6
      case y5_6 => (intro w hSw; (try dsimp only at hSw); go_split_ands; go_simp; try with_reducible rfl)
      try simp only [List.getElem_toArray, List.getElem_cons_succ, List.getElem_cons_zero, Act.put, List.setIfInBounds_toArray, List.set_cons_zero, List.set_cons_succ]
      refine wpAnyH_take (i := 6) (v := ?v6_7) rfl (by kernel_rfl) (by kernel_rfl) (by kernel_rfl) (fun _ _ _ h => h) (Or.inl ⟨by rfl, ?y6_7⟩) hHeld ?r6_7
      case y6_7 => (intro w hSw; (try dsimp only at hSw); go_split_ands; go_simp; try with_reducible rfl)
      try simp only [List.getElem_toArray, List.getElem_cons_succ, List.getElem_cons_zero, Act.put, List.setIfInBounds_toArray, List.set_cons_zero, List.set_cons_succ]
      refine wpAnyH_take (i := 7) (v := ?v7_8) rfl (by kernel_rfl) (by kernel_rfl) (by kernel_rfl) (fun _ _ _ h => h) (Or.inl ⟨by rfl, ?y7_8⟩) hHeld ?r7_8
      case y7_8 => (intro w hSw; (try dsimp only at hSw); go_split_ands; go_simp; try with_reducible rfl)
      try simp only [List.getElem_toArray, List.getElem_cons_succ, List.getElem_cons_zero, Act.put, List.setIfInBounds_toArray, List.set_cons_zero, List.set_cons_succ]
      refine wpAnyH_take (i := 8) (v := ?v8_9) rfl (by kernel_rfl) (by kernel_rfl) (by kernel_rfl) (fun _ _ _ h => h) (Or.inl ⟨by rfl, ?y8_9⟩) hHeld ?r8_9
      case y8_9 => (intro w hSw; (try dsimp only at hSw); go_split_ands; go_simp; try with_reducible rfl)
      try simp only [List.getElem_toArray, List.getElem_cons_succ, List.getElem_cons_zero, Act.put, List.setIfInBounds_toArray, List.set_cons_zero, List.set_cons_succ]
      refine wpAnyH_take (i := 9) (v := ?v9_10) rfl (by kernel_rfl) (by kernel_rfl) (by kernel_rfl) (fun _ _ _ h => h) (Or.inl ⟨by rfl, ?y9_10⟩) hHeld ?r9_10
      case y9_10 => (intro w hSw; (try dsimp only at hSw); go_split_ands; go_simp; try with_reducible rfl)
      try simp only [List.getElem_toArray, List.getElem_cons_succ, List.getElem_cons_zero, Act.put, List.setIfInBounds_toArray, List.set_cons_zero, List.set_cons_succ]
      refine wpAnyH_take (i := 10) (v := ?v10_11) rfl (by kernel_rfl) (by kernel_rfl) (by kernel_rfl) (fun _ _ _ h => h) (Or.inl ⟨by rfl, ?y10_11⟩) hHeld ?r10_11
      case y10_11 => (intro w hSw; (try dsimp only at hSw); go_split_ands; go_simp; try with_reducible rfl)
      try simp only [List.getElem_toArray, List.getElem_cons_succ, List.getElem_cons_zero, Act.put, List.setIfInBounds_toArray, List.set_cons_zero, List.set_cons_succ]
      refine wpAnyH_take (i := 11) (v := ?v11_12) rfl (by kernel_rfl) (by kernel_rfl) (by kernel_rfl) (fun _ _ _ h => h) (Or.inl ⟨by rfl, ?y11_12⟩) hHeld ?r11_12
      case y11_12 => (intro w hSw; (try dsimp only at hSw); go_split_ands; go_simp; try with_reducible rfl)
      try simp only [List.getElem_toArray, List.getElem_cons_succ, List.getElem_cons_zero, Act.put, List.setIfInBounds_toArray, List.set_cons_zero, List.set_cons_succ]
      refine wpAnyH_take (i := 12) (v := ?v12_13) rfl (by kernel_rfl) (by kernel_rfl) (by kernel_rfl) (fun _ _ _ h => h) (Or.inl ⟨by rfl, ?y12_13⟩) hHeld ?r12_13
      case y12_13 => (intro w hSw; (try dsimp only at hSw); go_split_ands; go_simp; try with_reducible rfl)
      try simp only [List.getElem_toArray, List.getElem_cons_succ, List.getElem_cons_zero, Act.put, List.setIfInBounds_toArray, List.set_cons_zero, List.set_cons_succ]
      refine wpAnyH_take (i := 13) (v := ?v13_14) rfl (by kernel_rfl) (by kernel_rfl) (by kernel_rfl) (fun _ _ _ h => h) (Or.inl ⟨by rfl, ?y13_14⟩) hHeld ?r13_14
      case y13_14 => (intro w hSw; (try dsimp only at hSw); go_split_ands; go_simp; try with_reducible rfl)
      try simp only [List.getElem_toArray, List.getElem_cons_succ, List.getElem_cons_zero, Act.put, List.setIfInBounds_toArray, List.set_cons_zero, List.set_cons_succ]
      refine wpAnyH_take (i := 14) (v := ?v14_15) rfl (by kernel_rfl) (by kernel_rfl) (by kernel_rfl) (fun _ _ _ h => h) (Or.inl ⟨by rfl, ?y14_15⟩) hHeld ?r14_15
      case y14_15 => (intro w hSw; (try dsimp only at hSw); go_split_ands; go_simp; try with_reducible rfl)
      try simp only [List.getElem_toArray, List.getElem_cons_succ, List.getElem_cons_zero, Act.put, List.setIfInBounds_toArray, List.set_cons_zero, List.set_cons_succ]
      refine wpAnyH_take (i := 15) (v := ?v15_16) rfl (by kernel_rfl) (by kernel_rfl) (by kernel_rfl) (fun _ _ _ h => h) (Or.inl ⟨by rfl, ?y15_16⟩) hHeld ?r15_16
      case y15_16 => (intro w hSw; (try dsimp only at hSw); go_split_ands; go_simp; try with_reducible rfl)
      try simp only [List.getElem_toArray, List.getElem_cons_succ, List.getElem_cons_zero, Act.put, List.setIfInBounds_toArray, List.set_cons_zero, List.set_cons_succ]
      refine wpAnyH_take (i := 16) (v := ?v16_17) rfl (by kernel_rfl) (by kernel_rfl) (by kernel_rfl) (fun _ _ _ h => h) (Or.inl ⟨by rfl, ?y16_17⟩) hHeld ?r16_17
      case y16_17 => (intro w hSw; (try dsimp only at hSw); go_split_ands; go_simp; try with_reducible rfl)
      try simp only [List.getElem_toArray, List.getElem_cons_succ, List.getElem_cons_zero, Act.put, List.setIfInBounds_toArray, List.set_cons_zero, List.set_cons_succ]
      refine wpAnyH_take (i := 17) (v := ?v17_18) rfl (by kernel_rfl) (by kernel_rfl) (by kernel_rfl) (fun _ _ _ h => h) (Or.inl ⟨by rfl, ?y17_18⟩) hHeld ?r17_18
      case y17_18 => (intro w hSw; (try dsimp only at hSw); go_split_ands; go_simp; try with_reducible rfl)
      try simp only [List.getElem_toArray, List.getElem_cons_succ, List.getElem_cons_zero, Act.put, List.setIfInBounds_toArray, List.set_cons_zero, List.set_cons_succ]
      refine wpAnyH_ready (rs := [18]) (by kernel_rfl) (by simp) ?_
      refine AllReadyH.cons rfl (fun K hK => ?_) AllReadyH.nil
      have hHeld' := hHeld
      try dsimp only at hHeld'
      go_split_ands
      go_simp
      refine SR.out.mono ?_
      rintro e w5 ⟨vr, vn, rfl, ho, hon, hb5⟩
      have hs5 := hb5.size
      replace hLd := Lib.hid (hLd.out.bl hb5)
      replace hFd := Lib.hid (hFd.out.bl hb5)
      replace hMd := Lib.hid (hMd.out.bl hb5)
      replace hbd := Lib.hid (hbd.out.tr hb5)
      clear SR hb5 q0 q1 q2
      refine hK.out _ _ ?_ (fun hHeld => ?_)
      · exact hM3.out _ hMd.out
      clear hK K
      try simp only [List.getElem_toArray, List.getElem_cons_succ, List.getElem_cons_zero, Act.put, List.setIfInBounds_toArray, List.set_cons_zero, List.set_cons_succ]
      refine wpAnyH_take (i := 19) (v := ?v19_19) rfl (by kernel_rfl) (by kernel_rfl) (by kernel_rfl) (fun _ _ _ h => h) (Or.inl ⟨by rfl, ?y19_19⟩) hHeld ?r19_19
      case y19_19 => (intro w hSw; (try dsimp only at hSw); go_split_ands; go_simp; try with_reducible rfl)
      try simp only [List.getElem_toArray, List.getElem_cons_succ, List.getElem_cons_zero, Act.put, List.setIfInBounds_toArray, List.set_cons_zero, List.set_cons_succ]
      refine wpAnyH_take (i := 20) (v := ?v20_20) rfl (by kernel_rfl) (by kernel_rfl) (by kernel_rfl) (fun _ _ _ h => h) (Or.inl ⟨by rfl, ?y20_20⟩) hHeld ?r20_20
      case y20_20 => (intro w hSw; (try dsimp only at hSw); go_split_ands; go_simp; try with_reducible rfl)
      try simp only [List.getElem_toArray, List.getElem_cons_succ, List.getElem_cons_zero, Act.put, List.setIfInBounds_toArray, List.set_cons_zero, List.set_cons_succ]
      refine wpAnyH_take (i := 21) (v := ?v21_21) rfl (by kernel_rfl) (by kernel_rfl) (by kernel_rfl) (fun _ _ _ h => h) (Or.inl ⟨by rfl, ?y21_21⟩) hHeld ?r21_21
      case y21_21 => (intro w hSw; (try dsimp only at hSw); go_split_ands; go_simp; try with_reducible rfl)
      try simp only [List.getElem_toArray, List.getElem_cons_succ, List.getElem_cons_zero, Act.put, List.setIfInBounds_toArray, List.set_cons_zero, List.set_cons_succ]
      refine wpAnyH_take (i := 22) (v := ?v22_22) rfl (by kernel_rfl) (by kernel_rfl) (by kernel_rfl) (fun _ _ _ h => h) (Or.inl ⟨by rfl, ?y22_22⟩) hHeld ?r22_22
      case y22_22 => (intro w hSw; (try dsimp only at hSw); go_split_ands; go_simp; try with_reducible rfl)
      try simp only [List.getElem_toArray, List.getElem_cons_succ, List.getElem_cons_zero, Act.put, List.setIfInBounds_toArray, List.set_cons_zero, List.set_cons_succ]
      refine wpAnyH_take (i := 23) (v := ?v23_23) rfl (by kernel_rfl) (by kernel_rfl) (by kernel_rfl) (fun _ _ _ h => h) (Or.inl ⟨by rfl, ?y23_23⟩) hHeld ?r23_23
      case y23_23 => (intro w hSw; (try dsimp only at hSw); go_split_ands; go_simp; try with_reducible rfl)
      try simp only [List.getElem_toArray, List.getElem_cons_succ, List.getElem_cons_zero, Act.put, List.setIfInBounds_toArray, List.set_cons_zero, List.set_cons_succ]
      refine wpAnyH_done (by kernel_rfl) ?_ _
      have ho := own_base ho hs3d
      have hon := own_base hon hs3d
      have hs6 : w3.heap.size ≤ w5.heap.size := by omega
      replace ho := Lib.hid ho
      replace hon := Lib.hid hon
      go_upto_region 11 with fail
      have hz9 : (s.cnt.take L).length ≤ 8 := by rw [List.length_take]; omega
      have hd9 := (Bl.rfl' w5).dr
      replace hLd := Lib.hid (hLd.out.bl hd9)
      replace hFd := Lib.hid (hFd.out.bl hd9)
      replace hMd := Lib.hid (hMd.out.bl hd9)
      replace hbd := Lib.hid (hbd.out.tr hd9)
      replace ho := Lib.hid (own_below ho.out hd9)
      replace hon := Lib.hid (own_below hon.out hd9)
      have hs7 : w3.heap.size ≤ w5.drew.heap.size := hs6
      refine wp_region_held_drew (S := fun w' => w'.cell? ⟨gM, j * 3, none⟩ = some (I t) ∧ w'.cell? ⟨gM, j * 3 + 1, none⟩ = some (I u) ∧ w'.cell? ⟨gM, j * 3 + 2, none⟩ = some (I v)) (by kernel_rfl) ?_ (fun hHeld => ?_)
      · exact hM3.out _ hMd.out
      refine wpAnyH_take (i := 0) (v := ?v0_24) rfl (by kernel_rfl) (by kernel_rfl) (by kernel_rfl) (fun _ _ _ h => h) (Or.inl ⟨by rfl, ?y0_24⟩) hHeld ?r0_24
      case y0_24 => (intro w hSw; (try dsimp only at hSw); go_split_ands; go_simp; try with_reducible rfl)
      try simp only [List.getElem_toArray, List.getElem_cons_succ, List.getElem_cons_zero, Act.put, List.setIfInBounds_toArray, List.set_cons_zero, List.set_cons_succ]
      refine wpAnyH_take (i := 1) (v := ?v1_25) rfl (by kernel_rfl) (by kernel_rfl) (by kernel_rfl) (fun _ _ _ h => h) (Or.inl ⟨by rfl, ?y1_25⟩) hHeld ?r1_25
      case y1_25 => (intro w hSw; (try dsimp only at hSw); go_split_ands; go_simp; try with_reducible rfl)
      try simp only [List.getElem_toArray, List.getElem_cons_succ, List.getElem_cons_zero, Act.put, List.setIfInBounds_toArray, List.set_cons_zero, List.set_cons_succ]
      refine wpAnyH_take (i := 2) (v := ?v2_26) rfl (by kernel_rfl) (by kernel_rfl) (by kernel_rfl) (fun _ _ _ h => h) (Or.inl ⟨by rfl, ?y2_26⟩) hHeld ?r2_26
      case y2_26 => (intro w hSw; (try dsimp only at hSw); go_split_ands; go_simp; try with_reducible rfl)
      try simp only [List.getElem_toArray, List.getElem_cons_succ, List.getElem_cons_zero, Act.put, List.setIfInBounds_toArray, List.set_cons_zero, List.set_cons_succ]
      refine wpAnyH_take (i := 3) (v := ?v3_27) rfl (by kernel_rfl) (by kernel_rfl) (by kernel_rfl) (fun _ _ _ h => h) (Or.inl ⟨by rfl, ?y3_27⟩) hHeld ?r3_27
      case y3_27 => (intro w hSw; (try dsimp only at hSw); go_split_ands; go_simp; try with_reducible rfl)
      try simp only [List.getElem_toArray, List.getElem_cons_succ, List.getElem_cons_zero, Act.put, List.setIfInBounds_toArray, List.set_cons_zero, List.set_cons_succ]
      refine wpAnyH_take (i := 4) (v := ?v4_28) rfl (by kernel_rfl) (by kernel_rfl) (by kernel_rfl) (fun _ _ _ h => h) (Or.inl ⟨by rfl, ?y4_28⟩) hHeld ?r4_28
      case y4_28 => (intro w hSw; (try dsimp only at hSw); go_split_ands; go_simp; try with_reducible rfl)
      try simp only [List.getElem_toArray, List.getElem_cons_succ, List.getElem_cons_zero, Act.put, List.setIfInBounds_toArray, List.set_cons_zero, List.set_cons_succ]
      refine wpAnyH_take (i := 5) (v := ?v5_29) rfl (by kernel_rfl) (by kernel_rfl) (by kernel_rfl) (fun _ _ _ h => h) (Or.inl ⟨by rfl, ?y5_29⟩) hHeld ?r5_29
      case y5_29 => (intro w hSw; (try dsimp only at hSw); go_split_ands; go_simp; try with_reducible rfl)
      try simp only [List.getElem_toArray, List.getElem_cons_succ, List.getElem_cons_zero, Act.put, List.setIfInBounds_toArray, List.set_cons_zero, List.set_cons_succ]
      refine wpAnyH_take (i := 6) (v := ?v6_30) rfl (by kernel_rfl) (by kernel_rfl) (by kernel_rfl) (fun _ _ _ h => h) (Or.inl ⟨by rfl, ?y6_30⟩) hHeld ?r6_30
      case y6_30 => (intro w hSw; (try dsimp only at hSw); go_split_ands; go_simp; try with_reducible rfl)
      try simp only [List.getElem_toArray, List.getElem_cons_succ, List.getElem_cons_zero, Act.put, List.setIfInBounds_toArray, List.set_cons_zero, List.set_cons_succ]
      refine wpAnyH_take (i := 7) (v := ?v7_31) rfl (by kernel_rfl) (by kernel_rfl) (by kernel_rfl) (fun _ _ _ h => h) (Or.inl ⟨by rfl, ?y7_31⟩) hHeld ?r7_31
      case y7_31 => (intro w hSw; (try dsimp only at hSw); go_split_ands; go_simp; try with_reducible rfl)
      try simp only [List.getElem_toArray, List.getElem_cons_succ, List.getElem_cons_zero, Act.put, List.setIfInBounds_toArray, List.set_cons_zero, List.set_cons_succ]
      refine wpAnyH_take (i := 8) (v := ?v8_32) rfl (by kernel_rfl) (by kernel_rfl) (by kernel_rfl) (fun _ _ _ h => h) (Or.inl ⟨by rfl, ?y8_32⟩) hHeld ?r8_32
      case y8_32 => (intro w hSw; (try dsimp only at hSw); go_split_ands; go_simp; try with_reducible rfl)
      try simp only [List.getElem_toArray, List.getElem_cons_succ, List.getElem_cons_zero, Act.put, List.setIfInBounds_toArray, List.set_cons_zero, List.set_cons_succ]
      refine wpAnyH_take (i := 9) (v := ?v9_33) rfl (by kernel_rfl) (by kernel_rfl) (by kernel_rfl) (fun _ _ _ h => h) (Or.inl ⟨by rfl, ?y9_33⟩) hHeld ?r9_33
      case y9_33 => (intro w hSw; (try dsimp only at hSw); go_split_ands; go_simp; try with_reducible rfl)
      try simp only [List.getElem_toArray, List.getElem_cons_succ, List.getElem_cons_zero, Act.put, List.setIfInBounds_toArray, List.set_cons_zero, List.set_cons_succ]
      refine wpAnyH_take (i := 10) (v := ?v10_34) rfl (by kernel_rfl) (by kernel_rfl) (by kernel_rfl) (fun _ _ _ h => h) (Or.inl ⟨by rfl, ?y10_34⟩) hHeld ?r10_34
      case y10_34 => (intro w hSw; (try dsimp only at hSw); go_split_ands; go_simp; try with_reducible rfl)
      try simp only [List.getElem_toArray, List.getElem_cons_succ, List.getElem_cons_zero, Act.put, List.setIfInBounds_toArray, List.set_cons_zero, List.set_cons_succ]
      refine wpAnyH_take (i := 11) (v := ?v11_35) rfl (by kernel_rfl) (by kernel_rfl) (by kernel_rfl) (fun _ _ _ h => h) (Or.inl ⟨by rfl, ?y11_35⟩) hHeld ?r11_35
      case y11_35 => (intro w hSw; (try dsimp only at hSw); go_split_ands; go_simp; try with_reducible rfl)
      try simp only [List.getElem_toArray, List.getElem_cons_succ, List.getElem_cons_zero, Act.put, List.setIfInBounds_toArray, List.set_cons_zero, List.set_cons_succ]
      refine wpAnyH_take (i := 12) (v := ?v12_36) rfl (by kernel_rfl) (by kernel_rfl) (by kernel_rfl) (fun _ _ _ h => h) (Or.inl ⟨by rfl, ?y12_36⟩) hHeld ?r12_36
      case y12_36 => (intro w hSw; (try dsimp only at hSw); go_split_ands; go_simp; try with_reducible rfl)
      try simp only [List.getElem_toArray, List.getElem_cons_succ, List.getElem_cons_zero, Act.put, List.setIfInBounds_toArray, List.set_cons_zero, List.set_cons_succ]
      refine wpAnyH_take (i := 13) (v := ?v13_37) rfl (by kernel_rfl) (by kernel_rfl) (by kernel_rfl) (fun _ _ _ h => h) (Or.inl ⟨by rfl, ?y13_37⟩) hHeld ?r13_37
      case y13_37 => (intro w hSw; (try dsimp only at hSw); go_split_ands; go_simp; try with_reducible rfl)
      try simp only [List.getElem_toArray, List.getElem_cons_succ, List.getElem_cons_zero, Act.put, List.setIfInBounds_toArray, List.set_cons_zero, List.set_cons_succ]
      refine wpAnyH_take (i := 14) (v := ?v14_38) rfl (by kernel_rfl) (by kernel_rfl) (by kernel_rfl) (fun _ _ _ h => h) (Or.inl ⟨by rfl, ?y14_38⟩) hHeld ?r14_38
      case y14_38 => (intro w hSw; (try dsimp only at hSw); go_split_ands; go_simp; try with_reducible rfl)
      try simp only [List.getElem_toArray, List.getElem_cons_succ, List.getElem_cons_zero, Act.put, List.setIfInBounds_toArray, List.set_cons_zero, List.set_cons_succ]
      refine wpAnyH_take (i := 15) (v := ?v15_39) rfl (by kernel_rfl) (by kernel_rfl) (by kernel_rfl) (fun _ _ _ h => h) (Or.inl ⟨by rfl, ?y15_39⟩) hHeld ?r15_39
      case y15_39 => (intro w hSw; (try dsimp only at hSw); go_split_ands; go_simp; try with_reducible rfl)
      try simp only [List.getElem_toArray, List.getElem_cons_succ, List.getElem_cons_zero, Act.put, List.setIfInBounds_toArray, List.set_cons_zero, List.set_cons_succ]
      refine wpAnyH_take (i := 17) (v := ?v17_40) rfl (by kernel_rfl) (by kernel_rfl) (by kernel_rfl) (fun _ _ _ h => h) (Or.inl ⟨by rfl, ?y17_40⟩) hHeld ?r17_40
      case y17_40 => (intro w hSw; (try dsimp only at hSw); go_split_ands; go_simp; try with_reducible rfl)
      try simp only [List.getElem_toArray, List.getElem_cons_succ, List.getElem_cons_zero, Act.put, List.setIfInBounds_toArray, List.set_cons_zero, List.set_cons_succ]
      refine wpAnyH_ready (rs := [16]) (by kernel_rfl) (by simp) ?_
      refine AllReadyH.cons rfl (fun K hK => ?_) AllReadyH.nil
      have hHeld' := hHeld
      try dsimp only at hHeld'
      go_split_ands
      go_simp
      refine (SX.out _ hLd.out).mono ?_
      rintro e w6 ⟨vq, rfl, hoq, hL6, hg⟩
      have hs8 := hg.size
      have hF6 := Lib.hid (hFd.out.gby hg hgF)
      have hM6 := Lib.hid (hMd.out.gby hg hgp)
      have hb6 := Lib.hid (hbd.out.gp hg hwp)
      have ho6 := Lib.hid (Own.gby ho.out hg hp3)
      have hon6 := Lib.hid (Own.gby hon.out hg hp3)
      replace hL6 := Lib.hid hL6
      replace hoq := Lib.hid hoq
      clear SX hg hLd hFd hMd hbd ho hon hd9
      refine hK.out _ _ ?_ (fun hHeld => ?_)
      · exact hM3.out _ hM6.out
      clear hK K
      try simp only [List.getElem_toArray, List.getElem_cons_succ, List.getElem_cons_zero, Act.put, List.setIfInBounds_toArray, List.set_cons_zero, List.set_cons_succ]
      refine wpAnyH_ready (rs := [18]) (by kernel_rfl) (by simp) ?_
      refine AllReadyH.cons rfl (fun K hK => ?_) AllReadyH.nil
      have hHeld' := hHeld
      try dsimp only at hHeld'
      go_split_ands
      go_simp
      refine (same_any _ _ vq vr w6 hoq.out.ints ho6.out.ints hsl hsl).mono ?_
      rintro e w7 ⟨rfl, hb7⟩
      have hs9 := hb7.size
      replace hL6 := Lib.hid (hL6.out.bl hb7)
      replace hF6 := Lib.hid (hF6.out.bl hb7)
      replace hM6 := Lib.hid (hM6.out.bl hb7)
      replace hb6 := Lib.hid (hb6.out.tr hb7)
      replace hon6 := Lib.hid (hon6.out.bl hb7)
      clear hb7
      refine hK.out _ _ ?_ (fun hHeld => ?_)
      · exact hM3.out _ hM6.out
      clear hK K
      try simp only [List.getElem_toArray, List.getElem_cons_succ, List.getElem_cons_zero, Act.put, List.setIfInBounds_toArray, List.set_cons_zero, List.set_cons_succ]
      refine wpAnyH_take (i := 19) (v := ?v19_41) rfl (by kernel_rfl) (by kernel_rfl) (by kernel_rfl) (fun _ _ _ h => h) (Or.inl ⟨by rfl, ?y19_41⟩) hHeld ?r19_41
      case y19_41 => (intro w hSw; (try dsimp only at hSw); go_split_ands; go_simp; try with_reducible rfl)
      try simp only [List.getElem_toArray, List.getElem_cons_succ, List.getElem_cons_zero, Act.put, List.setIfInBounds_toArray, List.set_cons_zero, List.set_cons_succ]
      refine wpAnyH_done (by kernel_rfl) ?_ _
      have e7 : decide (sent s = sent s) = true := decide_eq_true rfl
      go_wp2_with fail
      go_roundw
      case rel => exact ⟨j + 1, s.cnt, s.cnt.take L, by omega, by go_num, by have := hK.out; rwa [show ((j + 1 : Nat) : Int) = (j : Int) + 1 by omega], hz9, fun i hi => take_getD _ _ _ hi, hon6.out, hL6.out, hM6.out, hF6.out, hb6.out, by omega⟩
      case measure => simp [intOf] <;> omega
    · obtain rfl : j = N := by omega
      replace hbr := Lib.hid hbr
      clear hok hLS hMR hvc hFR
      go_wp2_with fail
      with_reducible refine (LV.out _).mono ?_
      rintro e w5 ⟨rfl, hb5⟩
      go_wp2_with fail
      go_ret
      exact ⟨rfl, hbr.out.tr hb5⟩
end Go.Proofs.Ytndipeipcodidaa.linkSends
