/-
  DedupApart is true for every input: what is told of one key is what a table tells that was told of this one alone. No condition.
-/
import Derived.Test.YtfpapfnpppggeaaDdL
namespace Go.Proofs.Ytfpapfnpppggeaa.dedupApart
open Go.ChangeShapes Go.WideShapes Go.ChangeAt Go.RowKit
open Go.Proofs.Ytfpapfnpppggeaa.dedup
set_option linter.unusedVariables false
set_option linter.unusedSimpArgs false

/-- What was put of one key. -/
def of1 (key : ByteArray) (W : List En) : List En := W.filter (fun e => decide (e.k = key))
theorem last_of1 (key : ByteArray) : ∀ W, lastF (of1 key W) key = lastF W key
  | [] => rfl
  | e :: W => by
    unfold of1
    by_cases hk : e.k = key
    · rw [List.filter_cons_of_pos (by simpa using hk)]
      unfold lastF
      rw [show lastF (W.filter (fun e => decide (e.k = key))) key = lastF W key from last_of1 key W]
    · rw [List.filter_cons_of_neg (by simpa using hk)]
      conv => rhs; unfold lastF
      rw [show lastF (W.filter (fun e => decide (e.k = key))) key = lastF W key from last_of1 key W]
      cases lastF W key with
      | some a => rfl
      | none => simp [hk]
theorem rem_of1 (h t : Int) (key : ByteArray) (W : List En) : remB h t (of1 key W) key = remB h t W key := by
  unfold remB
  rw [last_of1]
theorem put_of1 (h t : Int) (key : ByteArray) (W : List En) : of1 key (putR h t W key) = putR h t (of1 key W) key := by
  unfold putR
  rw [rem_of1]
  split
  · rfl
  · unfold of1
    rw [List.filter_append]
    simp
theorem put_not1 (h t : Int) (key k2 : ByteArray) (W : List En) (hk : ¬ k2 = key) : of1 key (putR h t W k2) = of1 key W := by
  unfold putR
  split
  · rfl
  · unfold of1
    rw [List.filter_append]
    simp [hk]
theorem of1_len (key : ByteArray) (W : List En) : (of1 key W).length ≤ W.length := List.length_filter_le _ _


set_option maxHeartbeats 8000000 in
theorem walk {w : World} (a : Int) (l1 : -9223372036854775808 ≤ a) (u1 : a ≤ 9223372036854775807) (v0 : Value) (z0 : List Int) (hv0 : IntsAt w v0 z0) (hz0 : i64ok z0) (hm0 : z0.length ≤ maxLen) (nn : Int) (l2 : -9223372036854775808 ≤ nn) (u2 : nn ≤ 9223372036854775807) :
    Calls Try.prog 6 #[I a, v0, I nn] w fun e w' => e = .returned (.bool true) ∧ Bl w w' := by
  have A1 := Lib.hid (fun w => horizon_any a w l1 u1)
  have OF0 := Lib.hid (fun w' => of_any nn w' l2 u2)
  have f0 := around_lo a 40 (by omega); have f1 := around_hi a 40 (by omega)
  obtain ⟨x, hx⟩ : ∃ z_, (around a 40) = z_ := ⟨_, rfl⟩
  rw [hx] at A1 f0 f1
  obtain ⟨h, hk⟩ : ∃ z, 1 + x = z := ⟨_, rfl⟩
  rw [hk] at A1
  have k0 : 1 ≤ h := by omega
  have k1 : h ≤ 40 := by omega
  obtain ⟨lk, hlk⟩ : ∃ z_, (sL (around nn 1000000)) = z_ := ⟨_, rfl⟩
  obtain ⟨key, hkey⟩ : ∃ z_, (sK (around nn 1000000)) = z_ := ⟨_, rfl⟩
  obtain ⟨pk, hpk⟩ : ∃ z_, (sP (around nn 1000000)) = z_ := ⟨_, rfl⟩
  rw [hlk, hkey, hpk] at OF0
  have LV := Lib.hid lives_any
  have NW := Lib.hid (fun w' hb => new_two w w' hb h)
  obtain ⟨a0, cap0, rfl, R⟩ := rd_any hv0
  unfold maxLen at hm0
  obtain ⟨N, hN⟩ : ∃ z_, (z0.length) = z_ := ⟨_, rfl⟩
  rw [hN] at R hm0 ⊢
  have hzz : ∀ k, k < N → -9223372036854775808 ≤ z0.getD k 0 ∧ z0.getD k 0 ≤ 9223372036854775807 := fun k hk => hz0 _ (getD_mem z0 k 0 (by omega))
  clear hx hk l1 u1 f0 f1 hv0 hN hz0 hlk hkey hpk l2 u2
  replace R := Lib.hid R
  replace hzz := Lib.hid hzz
  have FK := field_k lk key pk
  go_enter Try.func6, Try.ntmps6
  go_wp2_with fail
  with_reducible refine ((A1.out _)).mono ?_
  rintro e w' ⟨rfl, rfl⟩
  go_wp2_with fail
  with_reducible refine ((NW.out _ (Bl.rfl' _))).mono ?_
  rintro e w1 ⟨p, rfl, t1⟩
  clear NW A1
  have NW2 := Lib.hid (new_pr t1 h)
  clear t1
  go_wp2_with fail
  with_reducible refine (NW2.out).mono ?_
  rintro e w2 ⟨p2, rfl, t1⟩
  clear NW2
  replace t1 := Lib.hid t1
  go_wp2_with fail
  with_reducible refine (OF0.out _).mono ?_
  rintro e w3 ⟨rfl, hb3⟩
  have t2 := t1.out.bl hb3
  clear OF0 t1 hb3
  replace t2 := Lib.hid t2
  go_wp2_with fail
  go_loopw [11, 12] (fun nw i wr => ∃ (k : Nat) (W : List En) (t s : Int), k ≤ N ∧ k ≤ 40 ∧ i = I k ∧ nw = I t ∧ 0 ≤ t ∧ t ≤ 69 * k ∧ W.length ≤ k ∧ s ≤ t ∧ Pr w wr p h t W p2 h s (of1 key W) []) (fun _ i _ => N - (intOf i).toNat)
  case atStart => exact ⟨0, [], 0, 0, by omega, by omega, rfl, rfl, by omega, by omega, by simp, by omega, t2.out⟩
  case round =>
    obtain ⟨k, W, t, s, hkN, hk40, rfl, rfl, t0, t1', hWl, hst, hT⟩ := hrel
    have hbr := hT.blk
    clear t2
    by_cases hlt : k < N ∧ k < 40
    · obtain ⟨hlt, hlt2⟩ := hlt
      obtain ⟨b, off, rfl, hce⟩ := R.out wr hbr k hlt
      unfold icell at hce
      obtain ⟨y, hy⟩ : ∃ z_, (z0.getD k 0) = z_ := ⟨_, rfl⟩
      have hyb := hzz.out k hlt
      rw [hy] at hce hyb
      clear hy hzz R
      have OF := Lib.hid (of_any y wr hyb.1 hyb.2)
      have q0 := around_lo y 1000000 (by omega)
      obtain ⟨q, hq⟩ : ∃ z_, (around y 1000000) = z_ := ⟨_, rfl⟩
      rw [hq] at OF q0
      have hl := sL_le q q0
      obtain ⟨ll, hll⟩ : ∃ z_, (sL q) = z_ := ⟨_, rfl⟩
      obtain ⟨xk, hxk⟩ : ∃ z_, (sK q) = z_ := ⟨_, rfl⟩
      obtain ⟨pu, hpu⟩ : ∃ z_, (sP q) = z_ := ⟨_, rfl⟩
      rw [hll, hxk, hpu] at OF
      rw [hll] at hl
      clear hq hll hxk hpu hyb q0
      replace hT := Lib.hid hT
      replace hbr := Lib.hid hbr
      go_wp2_with fail
      with_reducible refine (OF.out).mono ?_
      rintro e w2 ⟨rfl, hb2⟩
      have hT2 := hT.out.add (hb2.al (.cells #[I ll, sV xk, .bool pu] 28)) w2.heap.size _ hb2.size (heap_alloc_new _ _)
      clear hT hbr
      replace hT2 := Lib.hid hT2
      replace hb2 := Lib.hid hb2
      go_wp2_with fail
      obtain ⟨y0, hy0⟩ : ∃ z_, (w2.heap.size) = z_ := ⟨_, rfl⟩
      obtain ⟨w3, hw3⟩ : ∃ z_, (w2.alloc (.cells #[I ll, sV xk, .bool pu] 28)) = z_ := ⟨_, rfl⟩
      rw [hy0, hw3] at hT2
      rw [hy0, hw3]
      clear hy0 hw3 hb2
      obtain ⟨t2, ht2⟩ : ∃ z, t + ll = z := ⟨_, rfl⟩
      rw [ht2]
      obtain ⟨c0, c1, c2⟩ := three hT2.out.oth
      have PP := Lib.hid (put_pr hT2.out (by omega) k0 (by omega) t2 xk (by omega) (by omega) (by omega))
      have hLp := putR_len' (h := h) (now := t2) (R := W) (key := xk)
      have wt : IntKind.i64.wrap ((k : Int) + 1) = ((k + 1 : Nat) : Int) := by rw [IntKind.wrap_i64]; omega
      have ke := keyEq xk key
      clear hT2
      replace wt := Lib.hid wt
      go_wp2_with fail
      with_reducible refine (PP.out).mono ?_
      rintro e w5 ⟨rfl, hT5⟩
      clear PP c0 c1 c2
      obtain ⟨c0, c1, c2⟩ := three hT5.oth
      by_cases hk1 : xk = key
      · subst hk1
        have P2 := Lib.hid (put_pr2 hT5 (by have := of1_len xk W; omega) k0 (by omega) t2 xk (by omega) (by omega) (by omega))
        rw [rem_of1, ← put_of1] at P2
        obtain ⟨V, hV⟩ : ∃ z_, (putR h t2 W xk) = z_ := ⟨_, rfl⟩
        rw [hV] at P2 hLp
        obtain ⟨B, hB⟩ : ∃ z_, (remB h t2 W xk) = z_ := ⟨_, rfl⟩
        rw [hB] at P2
        rw [hB]
        clear hB hV hT5
        have kt : (xk.toList = xk.toList) = True := by simp
        have kb : (xk.toList == xk.toList) = true := by simp
        have hbb : ((!B) != (!B)) = false := by simp
        go_wp2_with fail
        with_reducible refine (P2.out).mono ?_
        rintro e w6 ⟨rfl, hT6⟩
        clear P2
        replace hT6 := Lib.hid hT6
        go_wp2_with fail
        refine (has_pr hT6.out (by omega) k0 (by omega) t2 xk (Int.le_refl _)).mono ?_
        rintro e w7 ⟨rfl, hT7⟩
        clear hT6 c0 c1 c2
        replace hT7 := Lib.hid hT7
        go_wp2_with fail
        refine (has_pr2 hT7.out (by have := of1_len xk V; omega) k0 (by omega) t2 xk (by omega)).mono ?_
        rintro e w8 ⟨rfl, hT8⟩
        clear hT7
        have hT9 := hT8.drop
        clear hT8
        rw [rem_of1]
        obtain ⟨B2, hB2⟩ : ∃ z_, (remB h t2 V xk) = z_ := ⟨_, rfl⟩
        rw [hB2]
        clear hB2
        have hbb2 : (B2 != B2) = false := by simp
        replace hT9 := Lib.hid hT9
        replace wt := wt.out
        go_wp2_with fail
        go_roundw
        case rel => exact ⟨k + 1, V, t2, _, by omega, by omega, by go_num, rfl, by omega, by omega, by omega, Int.le_refl _, hT9.out⟩
        case measure => simp [intOf] <;> omega
      · have hV2 := put_not1 h t2 key xk W hk1
        have kt : (xk.toList = key.toList) = False := by rw [ke]; simp [hk1]
        have kb : (xk.toList == key.toList) = false := by rw [beq_eq_false_iff_ne]; intro h; rw [ke] at h; exact hk1 h
        rw [← hV2] at hT5
        clear hV2
        obtain ⟨V, hV⟩ : ∃ z_, (putR h t2 W xk) = z_ := ⟨_, rfl⟩
        rw [hV] at hT5 hLp
        clear hV
        replace hT5 := Lib.hid hT5
        go_wp2_with fail
        refine (has_pr hT5.out (by omega) k0 (by omega) t2 key (Int.le_refl _)).mono ?_
        rintro e w7 ⟨rfl, hT7⟩
        clear hT5 c0 c1 c2
        replace hT7 := Lib.hid hT7
        go_wp2_with fail
        refine (has_pr2 hT7.out (by have := of1_len key V; omega) k0 (by omega) t2 key (by omega)).mono ?_
        rintro e w8 ⟨rfl, hT8⟩
        clear hT7
        have hT9 := hT8.drop
        clear hT8
        rw [rem_of1]
        obtain ⟨B2, hB2⟩ : ∃ z_, (remB h t2 V key) = z_ := ⟨_, rfl⟩
        rw [hB2]
        clear hB2
        have hbb2 : (B2 != B2) = false := by simp
        replace hT9 := Lib.hid hT9
        replace wt := wt.out
        go_wp2_with fail
        go_roundw
        case rel => exact ⟨k + 1, V, t2, _, by omega, by omega, by go_num, rfl, by omega, by omega, by omega, Int.le_refl _, hT9.out⟩
        case measure => simp [intOf] <;> omega
    · have hb := Lib.hid hbr
      clear hT hbr R hzz
      by_cases h1 : k < N
      · obtain rfl : k = 40 := by omega
        go_wp2_with fail
        with_reducible refine ((LV.out _)).mono ?_
        rintro e w11 ⟨rfl, hb11⟩
        go_wp2_with fail
        go_ret
        exact ⟨rfl, hb.out.tr hb11⟩
      · obtain rfl : k = N := by omega
        go_wp2_with fail
        with_reducible refine ((LV.out _)).mono ?_
        rintro e w11 ⟨rfl, hb11⟩
        go_wp2_with fail
        go_ret
        exact ⟨rfl, hb.out.tr hb11⟩
end Go.Proofs.Ytfpapfnpppggeaa.dedupApart
