/-
  DedupGrows is true for every input: what a table of a shorter horizon remembers of keys that are put once, one of a longer horizon does, too. No condition.
-/
import Derived.Test.YtfpapfnpppggeaaDdL
import Derived.Test.YtfpapfnpppggeaaDec
namespace Go.Proofs.Ytfpapfnpppggeaa.dedupGrows
open Go.ChangeShapes Go.WideShapes Go.ChangeAt Go.RowKit
open Go.Proofs.Ytfpapfnpppggeaa.dedup
set_option linter.unusedVariables false
set_option linter.unusedSimpArgs false

theorem dec_list : ∀ j < 20, ∀ k < 20, (decB ((j : Nat) : Int)).data.toList = (decB ((k : Nat) : Int)).data.toList → j = k := by decide
/-- The keys of the first k numbers. -/
def Ks (k : Nat) (W : List En) : Prop := ∀ e ∈ W, ∃ j : Nat, j < k ∧ e.k = decB j
theorem Ks.fresh {k : Nat} {W : List En} (h : Ks k W) (hk : k < 20) (x n : Int) : remB x n W (decB k) = false := by
  unfold remB
  cases hl : lastF W (decB k) with
  | none => rfl
  | some a =>
    obtain ⟨y, hy, h1, -⟩ := lastF_mem W _ _ hl
    obtain ⟨j, hj, h2⟩ := h y hy
    have := dec_list j (by omega) k hk (by rw [← h2, h1])
    omega
theorem Ks.put {k : Nat} {W : List En} (h : Ks k W) (a : Int) : Ks (k + 1) (W ++ [⟨a, decB k⟩]) := by
  intro e he
  rcases List.mem_append.1 he with he | he
  · obtain ⟨j, hj, h2⟩ := h e he
    exact ⟨j, by omega, h2⟩
  · simp only [List.mem_singleton] at he
    subst he
    exact ⟨k, by omega, rfl⟩
theorem rem_mono {x y n : Int} (hxy : x ≤ y) {W : List En} {key : ByteArray} (h : remB x n W key = true) : remB y n W key = true := by
  unfold remB at h ⊢
  cases hl : lastF W key with
  | none => rw [hl] at h; cases h
  | some a =>
    rw [hl] at h
    simp only [decide_eq_true_eq] at h ⊢
    omega
theorem cnt_mono {x y n : Int} (hxy : x ≤ y) (W : List En) : W.countP (fun e => decide (n < e.a + x)) ≤ W.countP (fun e => decide (n < e.a + y)) :=
  List.countP_mono_left fun e _ h => by
    simp only [decide_eq_true_eq] at h ⊢
    omega

set_option maxHeartbeats 8000000 in
theorem walk {w : World} (a : Int) (l1 : -9223372036854775808 ≤ a) (u1 : a ≤ 9223372036854775807) (b : Int) (l2 : -9223372036854775808 ≤ b) (u2 : b ≤ 9223372036854775807) (v0 : Value) (z0 : List Int) (hv0 : IntsAt w v0 z0) (hz0 : i64ok z0) (hm0 : z0.length ≤ maxLen) :
    Calls Try.prog 9 #[I a, I b, v0] w fun e w' => e = .returned (.bool true) ∧ Bl w w' := by
  have A1 := Lib.hid (fun w => horizon_any a w l1 u1)
  have A2 := Lib.hid (fun w => horizon_any b w l2 u2)
  have f0 := around_lo a 40 (by omega); have f1 := around_hi a 40 (by omega)
  have g0 := around_lo b 40 (by omega); have g1 := around_hi b 40 (by omega)
  obtain ⟨xa, hx⟩ : ∃ z_, (around a 40) = z_ := ⟨_, rfl⟩
  rw [hx] at A1 f0 f1
  obtain ⟨xb, hxb⟩ : ∃ z_, (around b 40) = z_ := ⟨_, rfl⟩
  rw [hxb] at A2 g0 g1
  obtain ⟨ha, hka⟩ : ∃ z, 1 + xa = z := ⟨_, rfl⟩
  obtain ⟨hb, hkb⟩ : ∃ z, 1 + xb = z := ⟨_, rfl⟩
  rw [hka] at A1
  rw [hkb] at A2
  obtain ⟨x, hx'⟩ : ∃ z, (if hb < ha then hb else ha) = z := ⟨_, rfl⟩
  obtain ⟨y, hy'⟩ : ∃ z, (if hb < ha then ha else hb) = z := ⟨_, rfl⟩
  have hy2 : (if ha < hb then hb else ha) = y := by rw [← hy']; split <;> split <;> omega
  have hx2 : (if ha < hb then ha else hb) = x := by rw [← hx']; split <;> split <;> omega
  have x0 : 1 ≤ x := by rw [← hx']; split <;> omega
  have x1 : x ≤ 40 := by rw [← hx']; split <;> omega
  have y1 : y ≤ 40 := by rw [← hy']; split <;> omega
  have hxy : x ≤ y := by rw [← hx', ← hy']; split <;> omega
  have LV := Lib.hid lives_any
  have NW := Lib.hid (fun w' hb => new_two w w' hb x)
  obtain ⟨a0, cap0, rfl, R⟩ := rd_any hv0
  unfold maxLen at hm0
  obtain ⟨N, hN⟩ : ∃ z_, (z0.length) = z_ := ⟨_, rfl⟩
  rw [hN] at R hm0 ⊢
  have hzz : ∀ k, k < N → -9223372036854775808 ≤ z0.getD k 0 ∧ z0.getD k 0 ≤ 9223372036854775807 := fun k hk => hz0 _ (getD_mem z0 k 0 (by omega))
  clear hx hxb l1 u1 l2 u2 hv0 hN hz0
  replace R := Lib.hid R
  replace hzz := Lib.hid hzz
  go_enter Try.func9, Try.ntmps9
  go_wp2_with fail
  with_reducible refine ((A1.out _)).mono ?_
  rintro e w' ⟨rfl, rfl⟩
  go_wp2_with fail
  with_reducible refine ((A2.out _)).mono ?_
  rintro e w' ⟨rfl, rfl⟩
  go_wp2_with fail
  with_reducible refine ((A1.out _)).mono ?_
  rintro e w' ⟨rfl, rfl⟩
  go_wp2_with fail
  with_reducible refine ((A2.out _)).mono ?_
  rintro e w' ⟨rfl, rfl⟩
  clear A1 A2
  go_wp2_with fail
  with_reducible refine ((NW.out _ (Bl.rfl' _))).mono ?_
  rintro e w1 ⟨p, rfl, t1⟩
  clear NW
  have NW2 := Lib.hid (new_pr t1 y)
  clear t1 hy' hx' hy2 hx2 hka hkb
  go_wp2_with fail
  with_reducible refine (NW2.out).mono ?_
  rintro e w2 ⟨p2, rfl, t2⟩
  clear NW2
  replace t2 := Lib.hid t2
  go_wp2_with fail
  go_loopw [11, 12] (fun nw i wr => ∃ (k : Nat) (W : List En) (t r s : Int), k ≤ N ∧ k ≤ 20 ∧ i = I k ∧ nw = I t ∧ 0 ≤ t ∧ t ≤ 69 * k ∧ W.length ≤ k ∧ r ≤ t ∧ s ≤ t ∧ Ks k W ∧ His x t W ∧ His y t W ∧ Pr w wr p x r W p2 y s W []) (fun _ i _ => N - (intOf i).toNat)
  case atStart => exact ⟨0, [], 0, 0, 0, by omega, by omega, rfl, rfl, by omega, by omega, by simp, by omega, by omega, fun e he => by simp at he, ⟨⟨List.Pairwise.nil, fun x hx => by simp at hx⟩, fun x hx => by simp at hx⟩, ⟨⟨List.Pairwise.nil, fun x hx => by simp at hx⟩, fun x hx => by simp at hx⟩, t2.out⟩
  case round =>
    obtain ⟨k, W, t, r0, s0, hkN, hk20, rfl, rfl, t0, t1', hWl, hrt, hst, hK, hHx, hHy, hT⟩ := hrel
    have hbr := hT.blk
    clear t2
    by_cases hlt : k < N ∧ k < 20
    · obtain ⟨hlt, hlt2⟩ := hlt
      obtain ⟨b, off, rfl, hce⟩ := R.out wr hbr k hlt
      unfold icell at hce
      obtain ⟨yy, hyy⟩ : ∃ z_, (z0.getD k 0) = z_ := ⟨_, rfl⟩
      have hyb := hzz.out k hlt
      rw [hyy] at hce hyb
      clear hyy hzz R
      have OF := Lib.hid (of_any yy wr hyb.1 hyb.2)
      have q0 := around_lo yy 1000000 (by omega)
      obtain ⟨q, hq⟩ : ∃ z_, (around yy 1000000) = z_ := ⟨_, rfl⟩
      rw [hq] at OF q0
      have hl := sL_le q q0
      obtain ⟨ll, hll⟩ : ∃ z_, (sL q) = z_ := ⟨_, rfl⟩
      obtain ⟨xk, hxk⟩ : ∃ z_, (sK q) = z_ := ⟨_, rfl⟩
      obtain ⟨pu, hpu⟩ : ∃ z_, (sP q) = z_ := ⟨_, rfl⟩
      rw [hll, hxk, hpu] at OF
      rw [hll] at hl
      clear hq hll hxk hpu hyb q0
      have FL := field_l ll xk pu
      replace hT := Lib.hid hT
      replace hbr := Lib.hid hbr
      replace hHx := Lib.hid hHx
      replace hHy := Lib.hid hHy
      go_wp2_with fail
      with_reducible refine (OF.out).mono ?_
      rintro e w2 ⟨rfl, hb2⟩
      have hT2 := hT.out.bl hb2
      clear hT hbr hb2 OF
      obtain ⟨t2, ht2⟩ : ∃ z, t + ll = z := ⟨_, rfl⟩
      have wtl : IntKind.i64.wrap (t + ll) = t2 := by rw [← ht2, IntKind.wrap_i64]; omega
      have hHx2 := hHx.out.put (b := t2) (by omega) (by omega) (by omega) (decB k)
      have hHy2 := hHy.out.put (b := t2) (by omega) (by omega) (by omega) (decB k)
      have fx := hK.fresh hlt2 x t2
      have fy := hK.fresh hlt2 y t2
      have hK2 := hK.put t2
      have hWe : ∀ x, remB x t2 W (decB k) = false → putR x t2 W (decB k) = W ++ [⟨t2, decB k⟩] := fun x h => by unfold putR; rw [h]; rfl
      have hWx := hWe x fx
      have hWy := hWe y fy
      rw [hWx] at hHx2
      rw [hWy] at hHy2
      have hLp : (W ++ [⟨t2, decB k⟩] : List En).length ≤ W.length + 1 := by simp
      have DC := Lib.hid (fun w' => dec_any k w' (by omega) (by omega))
      clear hWe hK hHx hHy
      obtain ⟨dk, hdk⟩ : ∃ z_, (decB k) = z_ := ⟨_, rfl⟩
      rw [hdk] at DC fx fy hWx hWy hHx2 hHy2 hK2 hLp
      obtain ⟨V, hV⟩ : ∃ z_, (W ++ [⟨t2, dk⟩]) = z_ := ⟨_, rfl⟩
      rw [hV] at hWx hWy hHx2 hHy2 hK2 hLp
      clear hV
      replace hHx2 := Lib.hid hHx2
      replace hHy2 := Lib.hid hHy2
      replace hK2 := Lib.hid hK2
      replace hT2 := Lib.hid hT2
      go_wp2_with fail
      with_reducible refine (DC.out _).mono ?_
      rintro e w3 ⟨rfl, hb3⟩
      have PP := Lib.hid (put_pr (hT2.out.bl hb3) (by omega) x0 (by omega) t2 dk (by omega) (by omega) (by omega))
      rw [fx, hWx] at PP
      clear hT2 hb3 fx hWx
      go_wp2_with fail
      with_reducible refine (PP.out).mono ?_
      rintro e w4 ⟨rfl, hT4⟩
      clear PP
      replace hT4 := Lib.hid hT4
      go_wp2_with fail
      with_reducible refine (DC.out _).mono ?_
      rintro e w5 ⟨rfl, hb5⟩
      have PP := Lib.hid (put_pr2 (hT4.out.bl hb5) (by omega) (by omega) (by omega) t2 dk (by omega) (by omega) (by omega))
      rw [fy, hWy] at PP
      clear hT4 hb5 fy hWy DC hdk
      go_wp2_with fail
      with_reducible refine (PP.out).mono ?_
      rintro e w6 ⟨rfl, hT6⟩
      clear PP
      have wt : IntKind.i64.wrap ((k : Int) + 1) = ((k + 1 : Nat) : Int) := by rw [IntKind.wrap_i64]; omega
      replace hT6 := Lib.hid hT6
      replace wt := Lib.hid wt
      go_wp2_with fail
      go_loopw [13] (fun j wr => ∃ (m : Nat) (r s : Int), m ≤ k + 1 ∧ j = I m ∧ r ≤ t2 ∧ s ≤ t2 ∧ Pr w wr p x r V p2 y s V []) (fun j _ => k + 1 - (intOf j).toNat)
      case atStart => exact ⟨0, t2, t2, by omega, rfl, by omega, by omega, hT6.out⟩
      case round =>
        obtain ⟨m, r, s, hmk, rfl, hr, hs, hU⟩ := hrel
        clear hT6
        by_cases hm : m ≤ k
        · have wm1 : IntKind.i64.wrap ((m : Int) + 1) = ((m + 1 : Nat) : Int) := by rw [IntKind.wrap_i64]; omega
          have DM := Lib.hid (fun w' => dec_any m w' (by omega) (by omega))
          obtain ⟨dm, hdm⟩ : ∃ z_, (decB m) = z_ := ⟨_, rfl⟩
          rw [hdm] at DM
          clear hdm
          replace hU := Lib.hid hU
          replace wm1 := Lib.hid wm1
          go_wp2_with fail
          with_reducible refine (DM.out _).mono ?_
          rintro e w7 ⟨rfl, hb7⟩
          have HP := Lib.hid (has_pr (hU.out.bl hb7) (by omega) x0 (by omega) t2 dm hr)
          clear hU hb7
          have hmono := rem_mono (n := t2) hxy (W := V) (key := dm)
          obtain ⟨B, hB⟩ : ∃ z_, (remB x t2 V dm) = z_ := ⟨_, rfl⟩
          rw [hB] at HP hmono
          clear hB
          go_wp2_with fail
          with_reducible refine (HP.out).mono ?_
          rintro e w8 ⟨rfl, hU8⟩
          clear HP
          cases B with
          | false =>
            replace hU8 := Lib.hid hU8
            replace wm1 := wm1.out
            go_wp2_with fail
            go_roundw
            case rel => exact ⟨m + 1, t2, s, by omega, by go_num, Int.le_refl _, hs, hU8.out⟩
            case measure => simp [intOf] <;> omega
          | true =>
            have hm3 := Lib.hid (hmono rfl)
            clear hmono
            replace hU8 := Lib.hid hU8
            go_wp2_with fail
            with_reducible refine (DM.out _).mono ?_
            rintro e w9 ⟨rfl, hb9⟩
            have HP := Lib.hid (has_pr2 (hU8.out.bl hb9) (by omega) (by omega) (by omega) t2 dm hs)
            rw [hm3.out] at HP
            clear hU8 hb9
            go_wp2_with fail
            with_reducible refine (HP.out).mono ?_
            rintro e w10 ⟨rfl, hU10⟩
            clear HP
            replace hU10 := Lib.hid hU10
            replace wm1 := wm1.out
            go_wp2_with fail
            go_roundw
            case rel => exact ⟨m + 1, t2, t2, by omega, by go_num, Int.le_refl _, Int.le_refl _, hU10.out⟩
            case measure => simp [intOf] <;> omega
        · obtain rfl : m = k + 1 := by omega
          have hc := cnt_mono (n := t2) hxy V
          have HP := Lib.hid (len_pr hU hHx2.out (by omega) x0 (by omega) hr)
          obtain ⟨c1, hc1⟩ : ∃ z_, (V.countP (fun e => decide (t2 < e.a + x))) = z_ := ⟨_, rfl⟩
          rw [hc1] at HP hc
          clear hU hc1
          go_wp2_with fail
          with_reducible refine (HP.out).mono ?_
          rintro e w7 ⟨rfl, hU7⟩
          have HP := Lib.hid (len_pr2 hU7 hHy2.out (by omega) (by omega) (by omega) hs)
          obtain ⟨c2, hc2⟩ : ∃ z_, (V.countP (fun e => decide (t2 < e.a + y))) = z_ := ⟨_, rfl⟩
          rw [hc2] at HP hc
          clear hU7 hc2
          have hcc : decide ((c1 : Int) > (c2 : Int)) = false := decide_eq_false (by omega)
          have hcc2 : decide ((c2 : Int) < (c1 : Int)) = false := decide_eq_false (by omega)
          go_wp2_with fail
          with_reducible refine (HP.out).mono ?_
          rintro e w8 ⟨rfl, hU8⟩
          clear HP
          replace hU8 := Lib.hid hU8
          replace wt := wt.out
          go_wp2_with fail
          go_roundw
          case rel => exact ⟨k + 1, V, t2, t2, t2, by omega, by omega, by go_num, rfl, by omega, by omega, by omega, Int.le_refl _, Int.le_refl _, hK2.out, hHx2.out, hHy2.out, hU8.out⟩
          case measure => simp [intOf] <;> omega
    · have hb := Lib.hid hbr
      clear hT hbr R hzz hHx hHy
      by_cases h1 : k < N
      · obtain rfl : k = 20 := by omega
        go_wp2_with fail
        with_reducible refine ((LV.out _)).mono ?_
        rintro e w11 ⟨rfl, hb11⟩
        go_wp2_with fail
        go_ret
        exact ⟨rfl, hb.out.tr hb11⟩
      · obtain rfl : k = N := by omega
        go_wp2_with fail
        with_reducible refine ((LV.out _)).mono ?_
        rintro e w11 ⟨rfl, hb11⟩
        go_wp2_with fail
        go_ret
        exact ⟨rfl, hb.out.tr hb11⟩
end Go.Proofs.Ytfpapfnpppggeaa.dedupGrows
