/-
  DedupSpans is true for every input: of as many ticks in a row as the horizon a key is put with true in just one, if it is tried at each. No condition.
-/
import Derived.Test.YtfpapfnpppggeaaDdF
namespace Go.Proofs.Ytfpapfnpppggeaa.dedupSpans
open Go.ChangeShapes Go.WideShapes Go.ChangeAt Go.RowKit
open Go.Proofs.Ytfpapfnpppggeaa.dedup
set_option linter.unusedVariables false
set_option linter.unusedSimpArgs false

theorem rem1 (k t n : Int) (s : ByteArray) : remB k t [⟨n, s⟩] s = decide (t < n + k) := by
  unfold remB lastF lastF
  simp
theorem left1 (k t n : Int) (s : ByteArray) (h : t < n + k) : leftR k t [⟨n, s⟩] = [⟨n, s⟩] := by
  unfold leftR
  have : ¬ n + k ≤ t := by omega
  simp [List.dropWhile, this]
theorem left2 (k t n : Int) (s : ByteArray) (h : n + k ≤ t) (h0 : 1 ≤ k) : leftR k t ([⟨n, s⟩] ++ [⟨t, s⟩]) = [⟨t, s⟩] := by
  unfold leftR
  have : ¬ t + k ≤ t := by omega
  simp [List.dropWhile, h, this]
/-- What stands in the table at a tick, and how many Puts told true since n. -/
def Nw (s : ByteArray) (k n : Int) (t : Nat) (R : List En) (m : Int) : Prop :=
  (t = 0 ∧ R = [] ∧ m = 0) ∨ ∃ q : Int, 0 ≤ q ∧ q < t ∧ (t : Int) ≤ q + k ∧ R = [⟨q, s⟩] ∧ m = if n ≤ q then 1 else 0
theorem Nw.step {s : ByteArray} {k n : Int} {t : Nat} {R : List En} {m : Int} (h : Nw s k n t R m) (k0 : 1 ≤ k) (ht : (t : Int) < n + k) :
    ∃ q : Int, leftR k t (putR k t R s) = [⟨q, s⟩] ∧ 0 ≤ q ∧ q ≤ t ∧ (t : Int) < q + k ∧ R.length ≤ 1 ∧
      ((remB k t R s = false ∧ q = t ∧ m = 0) ∨ (remB k t R s = true ∧ m = if n ≤ q then 1 else 0)) := by
  rcases h with ⟨rfl, rfl, rfl⟩ | ⟨q, q0, q1, q2, rfl, rfl⟩
  · refine ⟨0, ?_, by omega, by omega, by simp; omega, by simp, Or.inl ⟨rfl, rfl, rfl⟩⟩
    exact left1 _ _ _ _ (by simp; omega)
  · by_cases hr : (t : Int) < q + k
    · have hb : remB k t [⟨q, s⟩] s = true := by rw [rem1]; exact decide_eq_true hr
      refine ⟨q, ?_, q0, by omega, hr, by simp, Or.inr ⟨hb, rfl⟩⟩
      unfold putR
      rw [hb, if_pos rfl]
      exact left1 _ _ _ _ hr
    · have hb : remB k t [⟨q, s⟩] s = false := by rw [rem1]; exact decide_eq_false hr
      refine ⟨t, ?_, by omega, by omega, by omega, by simp, Or.inl ⟨hb, rfl, ?_⟩⟩
      · unfold putR
        rw [hb, if_neg (by decide)]
        exact left2 _ _ _ _ (by omega) k0
      · rw [if_neg]; omega
theorem Nw.fin {s : ByteArray} {k n : Int} {t : Nat} {R : List En} {m : Int} (h : Nw s k n t R m) (k0 : 1 ≤ k) (n0 : 0 ≤ n) (ht : (t : Int) = n + k) : m = 1 := by
  rcases h with ⟨rfl, rfl, rfl⟩ | ⟨q, q0, q1, q2, rfl, rfl⟩
  · simp at ht; omega
  · rw [if_pos]; omega
theorem Nw.le {s : ByteArray} {k n : Int} {t : Nat} {R : List En} {m : Int} (h : Nw s k n t R m) : 0 ≤ m ∧ m ≤ 1 := by
  rcases h with ⟨rfl, rfl, rfl⟩ | ⟨q, q0, q1, q2, rfl, rfl⟩
  · omega
  · split <;> omega
abbrev kS : ByteArray := ⟨#[55, 47, 48]⟩

set_option maxHeartbeats 8000000 in
theorem walk {w : World} (a : Int) (l1 : -9223372036854775808 ≤ a) (u1 : a ≤ 9223372036854775807) (b : Int) (l2 : -9223372036854775808 ≤ b) (u2 : b ≤ 9223372036854775807) :
    Calls Try.prog 8 #[I a, I b] w fun e w' => e = .returned (.bool true) ∧ Bl w w' := by
  have A1 := Lib.hid (fun w => horizon_any a w l1 u1)
  have A2 := Lib.hid (fun w => around_any b 100 w l2 u2 (by omega) (by omega))
  have f0 := around_lo a 40 (by omega); have f1 := around_hi a 40 (by omega)
  have n0 := around_lo b 100 (by omega); have n1 := around_hi b 100 (by omega)
  obtain ⟨x, hx⟩ : ∃ z_, (around a 40) = z_ := ⟨_, rfl⟩
  rw [hx] at A1 f0 f1
  obtain ⟨n, hn⟩ : ∃ z_, (around b 100) = z_ := ⟨_, rfl⟩
  rw [hn] at A2 n0 n1
  obtain ⟨k, hk⟩ : ∃ z, 1 + x = z := ⟨_, rfl⟩
  rw [hk] at A1
  have k0 : 1 ≤ k := by omega
  have k1 : k ≤ 40 := by omega
  obtain ⟨M, hM⟩ : ∃ z, (n + k).toNat = z := ⟨_, rfl⟩
  have hM2 : n + k = (M : Int) := by omega
  have hM3 : M ≤ 140 := by omega
  have w2 : IntKind.i64.wrap (n + k) = (M : Int) := by rw [IntKind.wrap_i64]; omega
  have LV := Lib.hid lives_any
  have NW := Lib.hid (fun w => new_up w w (Bl.rfl' w) k)
  clear hx hn l1 u1 l2 u2
  replace hk := Lib.hid hk
  replace hM := Lib.hid hM
  replace hM2 := Lib.hid hM2
  go_enter Try.func8, Try.ntmps8
  go_wp2_with fail
  with_reducible refine ((A1.out _)).mono ?_
  rintro e w' ⟨rfl, rfl⟩
  go_wp2_with fail
  with_reducible refine ((NW.out _)).mono ?_
  rintro e w1 ⟨p, rfl, t1⟩
  clear NW A1
  replace t1 := Lib.hid t1
  go_wp2_with fail
  with_reducible refine ((A2.out _)).mono ?_
  rintro e w' ⟨rfl, rfl⟩
  clear A2
  go_wp2_with fail
  go_loopw [8, 9] (fun m i wr => ∃ (t : Nat) (R : List En) (m' now0 : Int), t ≤ M ∧ i = I t ∧ m = I m' ∧ Nw kS k n t R m' ∧ Up w wr p k now0 R ∧ now0 ≤ t) (fun _ i _ => M - (intOf i).toNat)
  case atStart => exact ⟨0, [], 0, 0, by omega, rfl, rfl, Or.inl ⟨rfl, rfl, rfl⟩, t1.out, by omega⟩
  case round =>
    obtain ⟨t, R, m, now0, ht, rfl, rfl, hN, hU, h00⟩ := hrel
    by_cases hlt : t < M
    · obtain ⟨q, e1, q0, q1, q2, hRl, hbm⟩ := hN.step k0 (by have := hM2.out; omega)
      have P := Lib.hid (put_up hU (by omega) k0 (by omega) t kS h00 (by omega) (by omega))
      rw [e1] at P
      obtain ⟨m0, m1⟩ := hN.le
      clear hN hU e1 hRl
      have wm : IntKind.i64.wrap (m + 1) = m + 1 := by rw [IntKind.wrap_i64]; omega
      have wt : IntKind.i64.wrap ((t : Int) + 1) = ((t + 1 : Nat) : Int) := by rw [IntKind.wrap_i64]; omega
      have hdl : ((t : Int) < (M : Int)) = True := by simp; omega
      have L0 : ∀ wz, Up w wz p k t [⟨q, kS⟩] → Calls Try.prog 17 #[ptr p, I t] wz fun e w' => e = .returned (I 1) ∧ Up w w' p k t [⟨q, kS⟩] := fun wz u => by
        have P := len_up u (by simp) k0 (by omega) t (by omega)
        rw [left1 _ _ _ _ (by omega), show (cntK [⟨q, kS⟩] : Nat) = 1 from rfl] at P
        exact P
      replace L0 := Lib.hid L0
      replace wt := Lib.hid wt
      rcases hbm with ⟨hr, rfl, rfl⟩ | ⟨hr, hm⟩
      · rw [hr] at P
        by_cases hn : n ≤ (t : Int)
        · have hd1 : decide (n ≤ (t : Int)) = true := decide_eq_true hn
          have hd2 : decide ((t : Int) ≥ n) = true := decide_eq_true hn
          go_wp2_with fail
          with_reducible refine (P.out).mono ?_
          rintro e w2 ⟨rfl, u2⟩
          replace u2 := Lib.hid u2
          go_wp2_with fail
          with_reducible refine ((L0.out _ u2.out)).mono ?_
          rintro e w3 ⟨rfl, u3⟩
          replace u3 := Lib.hid u3
          replace wt := wt.out
          go_wp2_with fail
          go_roundw
          case rel => exact ⟨t + 1, [⟨t, kS⟩], 1, t, by omega, rfl, rfl, Or.inr ⟨t, by omega, by omega, by omega, rfl, by rw [if_pos (by omega)]⟩, u3.out, by omega⟩
          case measure => simp [intOf] <;> omega
        · have hd1 : decide (n ≤ (t : Int)) = false := decide_eq_false hn
          have hd2 : decide ((t : Int) ≥ n) = false := decide_eq_false hn
          go_wp2_with fail
          with_reducible refine (P.out).mono ?_
          rintro e w2 ⟨rfl, u2⟩
          replace u2 := Lib.hid u2
          go_wp2_with fail
          with_reducible refine ((L0.out _ u2.out)).mono ?_
          rintro e w3 ⟨rfl, u3⟩
          replace u3 := Lib.hid u3
          replace wt := wt.out
          go_wp2_with fail
          go_roundw
          case rel => exact ⟨t + 1, [⟨t, kS⟩], 0, t, by omega, rfl, rfl, Or.inr ⟨t, by omega, by omega, by omega, rfl, by rw [if_neg (by omega)]⟩, u3.out, by omega⟩
          case measure => simp [intOf] <;> omega
      · rw [hr] at P
        replace hm := Lib.hid hm
        go_wp2_with fail
        with_reducible refine (P.out).mono ?_
        rintro e w2 ⟨rfl, u2⟩
        replace u2 := Lib.hid u2
        go_wp2_with fail
        with_reducible refine ((L0.out _ u2.out)).mono ?_
        rintro e w3 ⟨rfl, u3⟩
        replace u3 := Lib.hid u3
        replace wt := wt.out
        go_wp2_with fail
        go_roundw
        case rel => exact ⟨t + 1, [⟨q, kS⟩], m, t, by omega, rfl, rfl, Or.inr ⟨q, by omega, by omega, by omega, rfl, hm.out⟩, u3.out, by omega⟩
        case measure => simp [intOf] <;> omega
    · obtain rfl : t = M := by omega
      have hm := hN.fin k0 n0 hM2.out.symm
      subst hm
      have hb := Lib.hid hU.2
      clear hN hU
      go_wp2_with fail
      with_reducible refine ((LV.out _)).mono ?_
      rintro e w11 ⟨rfl, hb11⟩
      go_wp2_with fail
      go_ret
      exact ⟨rfl, hb.out.tr hb11⟩
end Go.Proofs.Ytfpapfnpppggeaa.dedupSpans
