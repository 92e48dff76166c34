/-
  DedupEdges is true for every input: a key is remembered up to the tick ahead of the horizon's end, and no longer. No condition.
-/
import Derived.Test.YtfpapfnpppggeaaDdE
import Derived.Test.YtfpapfnpppggeaaAround
import Derived.Test.YtfpapfnpppggeaaShort
namespace Go.Proofs.Ytfpapfnpppggeaa.dedupEdges
open Go.ChangeShapes Go.WideShapes Go.ChangeAt Go.RowKit
open Go.Proofs.Ytfpapfnpppggeaa.dedup
set_option linter.unusedVariables false
set_option linter.unusedSimpArgs false

theorem rem1 (k t n : Int) (s : ByteArray) : remB k t [⟨n, s⟩] s = decide (t < n + k) := by
  unfold remB lastF lastF
  simp
theorem left1 (k t n : Int) (s : ByteArray) (h : t < n + k) : leftR k t [⟨n, s⟩] = [⟨n, s⟩] := by
  unfold leftR
  have : ¬ n + k ≤ t := by omega
  simp [List.dropWhile, this]
theorem left0 (k t n : Int) (s : ByteArray) (h : n + k ≤ t) : leftR k t [⟨n, s⟩] = [] := by
  unfold leftR
  simp [List.dropWhile, h]
theorem put1 (k t n : Int) (s : ByteArray) (h : t < n + k) : putR k t [⟨n, s⟩] s = [⟨n, s⟩] := by
  unfold putR
  rw [rem1]
  simp [h]

set_option maxHeartbeats 8000000 in
theorem walk {w : World} (a : Int) (l1 : -9223372036854775808 ≤ a) (u1 : a ≤ 9223372036854775807) (b : Int) (l2 : -9223372036854775808 ≤ b) (u2 : b ≤ 9223372036854775807) (key : ByteArray) (hs : key.size ≤ 9223372036854775807) :
    Calls Try.prog 5 #[I a, I b, sV key] w fun e w' => e = .returned (.bool true) ∧ Bl w w' := by
  have A1 := Lib.hid (fun w => around_any a 40000 w l1 u1 (by omega) (by omega))
  have A2 := Lib.hid (fun w => around_any b 2147443646 w l2 u2 (by omega) (by omega))
  have f0 := around_lo a 40000 (by omega); have f1 := around_hi a 40000 (by omega)
  have g0 := around_lo b 2147443646 (by omega); have g1 := around_hi b 2147443646 (by omega)
  have S : ∀ w, Calls Try.prog 21 #[sV key, I 30] w fun e w' => e = .returned (sV (shortS key 30)) ∧ w = w' := (fun w => short_any key 30 w hs (by omega))
  obtain ⟨x, hx⟩ : ∃ z_, (around a 40000) = z_ := ⟨_, rfl⟩
  rw [hx] at A1 f0 f1
  obtain ⟨n, hn⟩ : ∃ z_, (around b 2147443646) = z_ := ⟨_, rfl⟩
  rw [hn] at A2 g0 g1
  obtain ⟨s, hs'⟩ : ∃ z_, (shortS key 30) = z_ := ⟨_, rfl⟩
  simp only [hs'] at S
  replace S := Lib.hid S
  obtain ⟨k, hk⟩ : ∃ z, 1 + x = z := ⟨_, rfl⟩
  have w1 : IntKind.i64.wrap (1 + x) = k := by rw [IntKind.wrap_i64]; omega
  have k0 : 1 ≤ k := by omega
  have k1 : k ≤ 40000 := by omega
  obtain ⟨m, hm⟩ : ∃ z, n + k = z := ⟨_, rfl⟩
  have w2 : IntKind.i64.wrap (n + k) = m := by rw [IntKind.wrap_i64]; omega
  have w3 : IntKind.i64.wrap (m - 1) = m - 1 := by rw [IntKind.wrap_i64]; omega
  have LV := Lib.hid lives_any
  have NW := Lib.hid (fun w => new_up w w (Bl.rfl' w) k)
  clear hx hn hs' hs l1 u1 l2 u2
  replace hk := Lib.hid hk
  replace hm := Lib.hid hm
  go_enter Try.func5, Try.ntmps5
  go_wp2_with fail
  with_reducible refine ((A1.out _)).mono ?_
  rintro e w' ⟨rfl, rfl⟩
  go_wp2_with fail
  with_reducible refine ((A2.out _)).mono ?_
  rintro e w' ⟨rfl, rfl⟩
  go_wp2_with fail
  with_reducible refine ((S.out _)).mono ?_
  rintro e w' ⟨rfl, rfl⟩
  go_wp2_with fail
  with_reducible refine ((NW.out _)).mono ?_
  rintro e w1 ⟨p, rfl, t1⟩
  have P := Lib.hid (has_up t1 (by simp) k0 (by omega) n s (by omega))
  rw [show remB k n [] s = false from rfl, show leftR k n [] = [] from rfl] at P
  clear t1 NW A1 A2 S
  go_wp2_with fail
  with_reducible refine (P.out).mono ?_
  rintro e w2 ⟨rfl, t2⟩
  have P := Lib.hid (put_up t2 (by simp) k0 (by omega) n s (by omega) (by omega) (by omega))
  rw [show remB k n [] s = false from rfl, show putR k n [] s = [⟨n, s⟩] from rfl, left1 _ _ _ _ (by omega)] at P
  clear t2
  go_wp2_with fail
  with_reducible refine (P.out).mono ?_
  rintro e w3 ⟨rfl, t3⟩
  have P := Lib.hid (put_up t3 (by simp) k0 (by omega) n s (by omega) (by omega) (by omega))
  rw [put1 _ _ _ _ (by omega), left1 _ _ _ _ (by omega), rem1, decide_eq_true (by omega)] at P
  clear t3
  go_wp2_with fail
  with_reducible refine (P.out).mono ?_
  rintro e w4 ⟨rfl, t4⟩
  have P := Lib.hid (has_up t4 (by simp) k0 (by omega) (m - 1) s (by have := hm.out; omega))
  rw [left1 _ _ _ _ (by have := hm.out; omega), rem1, decide_eq_true (by have := hm.out; omega)] at P
  clear t4
  go_wp2_with fail
  with_reducible refine (P.out).mono ?_
  rintro e w5 ⟨rfl, t5⟩
  have P := Lib.hid (put_up t5 (by simp) k0 (by omega) (m - 1) s (by omega) (by have := hm.out; omega) (by have := hm.out; omega))
  rw [put1 _ _ _ _ (by have := hm.out; omega), left1 _ _ _ _ (by have := hm.out; omega), rem1, decide_eq_true (by have := hm.out; omega)] at P
  clear t5
  go_wp2_with fail
  with_reducible refine (P.out).mono ?_
  rintro e w6 ⟨rfl, t6⟩
  have P := Lib.hid (has_up t6 (by simp) k0 (by omega) m s (by omega))
  rw [left0 _ _ _ _ (by have := hm.out; omega), rem1, decide_eq_false (by have := hm.out; omega)] at P
  clear t6
  go_wp2_with fail
  with_reducible refine (P.out).mono ?_
  rintro e w7 ⟨rfl, t7⟩
  have P := Lib.hid (len_up t7 (by simp) k0 (by omega) m (by omega))
  rw [show leftR k m [] = [] from rfl, show (cntK [] : Nat) = 0 from rfl] at P
  clear t7
  go_wp2_with fail
  with_reducible refine (P.out).mono ?_
  rintro e w8 ⟨rfl, t8⟩
  have P := Lib.hid (put_up t8 (by simp) k0 (by omega) m s (by omega) (by have := hm.out; omega) (by have := hm.out; omega))
  rw [show remB k m [] s = false from rfl, show putR k m [] s = [⟨m, s⟩] from rfl, left1 _ _ _ _ (by omega)] at P
  clear t8
  go_wp2_with fail
  with_reducible refine (P.out).mono ?_
  rintro e w9 ⟨rfl, t9⟩
  have P := Lib.hid (len_up t9 (by simp) k0 (by omega) m (by omega))
  rw [left1 _ _ _ _ (by omega), show (cntK [⟨m, s⟩] : Nat) = 1 from rfl] at P
  clear t9
  go_wp2_with fail
  with_reducible refine (P.out).mono ?_
  rintro e w10 ⟨rfl, t10⟩
  have hb10 := Lib.hid t10.2
  clear t10
  go_wp2_with fail
  with_reducible refine ((LV.out _)).mono ?_
  rintro e w11 ⟨rfl, hb11⟩
  go_wp2_with fail
  go_ret
  exact ⟨rfl, hb10.out.tr hb11⟩
end Go.Proofs.Ytfpapfnpppggeaa.dedupEdges
