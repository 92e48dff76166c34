/-
  FixChebyshev is true for every input (Chebyshev): of some shares, times the square of the tenths, no more are far from all than 100 times as many as there are; the best is never far; what is far by more is far by less. No condition.
-/
import Derived.Test.YtpobachhplbamaaWFixFar
namespace Go.Proofs.Ytpobachhplbamaa.fixChebyshev
open Go.ChangeShapes Go.WideShapes Go.ChangeAt Go.RowKit
set_option linter.unusedVariables false
set_option linter.unusedSimpArgs false

def sh (p : Int × Int) : Int := share p.1 p.2
def dev (n S : Int) (p : Int × Int) : Int := S - n * sh p
def dsum (n S : Int) : List (Int × Int) → Int
  | [] => 0
  | p :: l => dev n S p * dev n S p + dsum n S l
theorem dsum_eq (n S : Int) (l : List (Int × Int)) : dsum n S l = l.length * (S * S) - 2 * (n * S * ssum l) + n * n * qsum l := by
  induction l with
  | nil => simp [dsum, ssum, qsum]
  | cons p l ih =>
    simp only [dsum, ssum, qsum, ih, List.length_cons, dev]
    have e1 : (S - n * sh p) * (S - n * sh p) = S * S - 2 * (n * S * sh p) + n * n * (sh p * sh p) := by
      have h1 : (S - n * sh p) * (S - n * sh p) = S * S - S * (n * sh p) - (n * sh p * S - n * sh p * (n * sh p)) := by rw [Int.sub_mul, Int.mul_sub, Int.mul_sub]
      have h2 : S * (n * sh p) = n * S * sh p := by rw [← Int.mul_assoc, Int.mul_comm S n]
      have h3 : n * sh p * S = n * S * sh p := by rw [Int.mul_assoc, Int.mul_comm (sh p) S, ← Int.mul_assoc]
      have h4 : n * sh p * (n * sh p) = n * n * (sh p * sh p) := by rw [Int.mul_assoc, ← Int.mul_assoc (sh p) n, Int.mul_comm (sh p) n, Int.mul_assoc, ← Int.mul_assoc, ← Int.mul_assoc]
      rw [h1, h2, h3, h4]; omega
    rw [e1]
    have e2 : n * S * (share p.1 p.2 + ssum l) = n * S * sh p + n * S * ssum l := by rw [Int.mul_add]; rfl
    have e3 : n * n * (share p.1 p.2 * share p.1 p.2 + qsum l) = n * n * (sh p * sh p) + n * n * qsum l := by rw [Int.mul_add]; rfl
    have e4 : ((l.length + 1 : Nat) : Int) * (S * S) = l.length * (S * S) + S * S := by push_cast; rw [Int.add_mul]; omega
    rw [e2, e3, e4]; omega

theorem sq_nonneg (x : Int) : 0 ≤ x * x := by
  rcases Int.le_total 0 x with h | h
  · exact Int.mul_nonneg h h
  · have := Int.mul_nonneg (show 0 ≤ -x by omega) (show 0 ≤ -x by omega); rwa [Int.neg_mul_neg] at this
theorem dsum_nonneg (n S : Int) (l : List (Int × Int)) : 0 ≤ dsum n S l := by
  induction l with
  | nil => simp [dsum]
  | cons p l ih => have := sq_nonneg (dev n S p); simp only [dsum]; omega

def V (L : List (Int × Int)) : Int := L.length * qsum L - ssum L * ssum L
theorem dsum_all (L : List (Int × Int)) : dsum L.length (ssum L) L = L.length * V L := by
  rw [dsum_eq]; unfold V
  rw [Int.mul_sub, Int.mul_assoc (L.length : Int) (ssum L) (ssum L), Int.mul_assoc (L.length : Int) (L.length : Int) (qsum L)]; omega

theorem far_iff (p : Int × Int) (L : List (Int × Int)) (t : Int) (hl : 0 < L.length) : farB p.1 p.2 L t = true ↔ 0 < dev L.length (ssum L) p ∧ t * t * V L < 100 * (dev L.length (ssum L) p * dev L.length (ssum L) p) := by
  unfold farB
  have : L.isEmpty = false := by cases L with | nil => simp at hl | cons _ _ => rfl
  rw [this]
  simp only [Bool.not_false, Bool.true_and, Bool.and_eq_true, decide_eq_true_eq]
  rw [← Int.mul_assoc]; exact Iff.rfl

theorem V_nonneg (L : List (Int × Int)) (hl : 0 < L.length) : 0 ≤ V L := by
  have h := dsum_nonneg L.length (ssum L) L
  rw [dsum_all] at h
  rcases Int.lt_or_le (V L) 0 with hv | hv
  · have := Int.mul_neg_of_pos_of_neg (show (0 : Int) < L.length by omega) hv; omega
  · exact hv

def cnt (L : List (Int × Int)) (t : Int) : List (Int × Int) → Int
  | [] => 0
  | p :: l => (if farB p.1 p.2 L t then 1 else 0) + cnt L t l
theorem cnt_snoc (L : List (Int × Int)) (t : Int) (l : List (Int × Int)) (p : Int × Int) : cnt L t (l ++ [p]) = cnt L t l + if farB p.1 p.2 L t then 1 else 0 := by
  induction l with
  | nil => simp [cnt]
  | cons q l ih => simp only [List.cons_append, cnt, ih]; omega
theorem cnt_range (L : List (Int × Int)) (t : Int) (l : List (Int × Int)) : 0 ≤ cnt L t l ∧ cnt L t l ≤ l.length := by
  induction l with
  | nil => simp [cnt]
  | cons q l ih => simp only [cnt, List.length_cons]; split <;> omega
theorem cnt_le (L : List (Int × Int)) (t : Int) (hl : 0 < L.length) (l : List (Int × Int)) : cnt L t l * (t * t * V L) ≤ 100 * dsum L.length (ssum L) l ∧ (0 < cnt L t l → cnt L t l * (t * t * V L) < 100 * dsum L.length (ssum L) l) := by
  induction l with
  | nil => simp [cnt, dsum]
  | cons p l ih =>
    have hs := sq_nonneg (dev L.length (ssum L) p)
    have hr := cnt_range L t l
    simp only [cnt, dsum]
    by_cases h : farB p.1 p.2 L t = true
    · rw [if_pos h]
      have hf := ((far_iff p L t hl).1 h).2
      rw [Int.add_mul, Int.one_mul]; omega
    · rw [if_neg h, Int.zero_add]
      refine ⟨by omega, fun h0 => by have := ih.2 h0; omega⟩

theorem chebyshev (L : List (Int × Int)) (t : Int) (ht : 0 ≤ t) : cnt L t L * t * t ≤ 100 * L.length := by
  rcases Nat.eq_zero_or_pos L.length with h0 | hl
  · have : L = [] := List.eq_nil_of_length_eq_zero h0
    subst this; simp [cnt]
  · obtain ⟨h1, h2⟩ := cnt_le L t hl L
    rw [dsum_all] at h1 h2
    have hr := cnt_range L t L
    have hv := V_nonneg L hl
    rcases Int.lt_or_le 0 (cnt L t L) with hc | hc
    · have h3 := h2 hc
      have e : cnt L t L * (t * t * V L) = cnt L t L * t * t * V L := by rw [← Int.mul_assoc, ← Int.mul_assoc]
      have e2 : 100 * (↑L.length * V L) = 100 * ↑L.length * V L := by rw [Int.mul_assoc]
      rw [e, e2] at h3
      rcases Int.lt_or_le (100 * (L.length : Int)) (cnt L t L * t * t) with h4 | h4
      · have := Int.mul_le_mul_of_nonneg_right (Int.le_of_lt h4) hv; omega
      · exact h4
    · have : cnt L t L = 0 := by omega
      rw [this, Int.zero_mul, Int.zero_mul]; omega

theorem far_less (p : Int × Int) (L : List (Int × Int)) (t : Int) (ht : 1 ≤ t) (h : farB p.1 p.2 L t = true) : farB p.1 p.2 L (t - 1) = true := by
  rcases Nat.eq_zero_or_pos L.length with h0 | hl
  · have : L = [] := List.eq_nil_of_length_eq_zero h0
    subst this; simp [farB] at h
  · rw [far_iff p L _ hl] at h ⊢
    refine ⟨h.1, ?_⟩
    have hv := V_nonneg L hl
    have h1 : (t - 1) * (t - 1) ≤ t * t := Int.mul_le_mul (by omega) (by omega) (by omega) (by omega)
    have := Int.mul_le_mul_of_nonneg_right h1 hv
    omega

theorem ssum_le (b : Int) (l : List (Int × Int)) (h : ∀ p ∈ l, sh p ≤ b) : ssum l ≤ l.length * b := by
  induction l with
  | nil => simp [ssum]
  | cons p l ih =>
    have h1 := h p (List.mem_cons_self ..)
    have h2 := ih fun q hq => h q (List.mem_cons_of_mem _ hq)
    simp only [ssum, List.length_cons]
    have : ((l.length + 1 : Nat) : Int) * b = l.length * b + b := by push_cast; rw [Int.add_mul]; omega
    unfold sh at h1
    rw [this]; omega
theorem far_best (p : Int × Int) (L : List (Int × Int)) (t : Int) (h : ∀ q ∈ L, sh q ≤ sh p) : farB p.1 p.2 L t = false := by
  have hs := ssum_le (sh p) L h
  unfold farB
  rw [show decide (0 < ssum L - ↑L.length * share p.1 p.2) = false from by simp; exact hs]
  simp

def best : List (Int × Int) → Int
  | [] => 0
  | p :: l => max (sh p) (best l)
theorem best_snoc (l : List (Int × Int)) (p : Int × Int) : best (l ++ [p]) = max (best l) (sh p) := by
  induction l with
  | nil => simp [best]; omega
  | cons q l ih => simp only [List.cons_append, best, ih]; omega
theorem best_range (l : List (Int × Int)) (h : ∀ p ∈ l, fair p) : 0 ≤ best l ∧ best l ≤ 1000 := by
  induction l with
  | nil => simp [best]
  | cons p l ih =>
    have h1 := share_range (h p (List.mem_cons_self ..))
    have h2 := ih fun q hq => h q (List.mem_cons_of_mem _ hq)
    simp only [best, sh]; omega
theorem best_ge (l : List (Int × Int)) : ∀ p ∈ l, sh p ≤ best l := by
  induction l with
  | nil => intro p hp; cases hp
  | cons q l ih =>
    intro p hp
    rcases List.mem_cons.1 hp with rfl | hp
    · simp only [best]; omega
    · have := ih p hp; simp only [best]; omega

theorem walk_nil (w : World) (v0 : Value) (z : List Int) (hv : IntsAt w v0 z) (hz : i64ok z) (hm : z.length ≤ maxLen) (h0 : pairs z = [])
    (t : Int) (l2 : -9223372036854775808 ≤ t) (u2 : t ≤ 9223372036854775807) :
    Calls Try.prog 11 #[v0, .int .i64 t] w fun e w' => e = .returned (.bool true) ∧ Bl w w' := by
  have A1 := Lib.hid (fun w => around_any t 40 w l2 u2 (by omega) (by omega))
  have a0 := around_lo t 40 (by omega); have a1 := around_hi t 40 (by omega)
  obtain ⟨ta, hta⟩ : ∃ a, around t 40 = a := ⟨_, rfl⟩
  rw [hta] at A1 a0 a1
  clear hta
  have P0 := Lib.hid (pairs_any z v0 w hz hv hm)
  rw [h0] at P0
  go_enter Try.func11, Try.ntmps11
  go_wp2_with fail
  refine P0.out.mono ?_
  rintro e w1 ⟨va, rfl, hva, hb1⟩
  rcases hva with ⟨a, c, rfl, _, _⟩ | ⟨b, off, cap, rfl, _, _, _, _⟩
  all_goals
    go_wp2_with fail
    refine (A1.out _).mono ?_
    rintro e w' ⟨rfl, rfl⟩
    go_wp2_with fail
    go_loop [8, 9] (fun s i => s = I 0 ∧ i = I 0) (fun _ _ => 0)
    case atStart => exact ⟨rfl, rfl⟩
    case round =>
      obtain ⟨rfl, rfl⟩ := hrel
      go_wp2_with fail
      go_loop [7, 10] (fun s i => s = I 0 ∧ i = I 0) (fun _ _ => 0)
      case atStart => exact ⟨rfl, rfl⟩
      case round =>
        obtain ⟨rfl, rfl⟩ := hrel
        go_wp2_with fail
        refine (lives01 _).mono ?_
        rintro e w5 ⟨rfl, hb5⟩
        go_wp2_with fail
        go_ret
        exact ⟨rfl, hb1.tr hb5⟩

set_option maxHeartbeats 2000000 in
theorem walk_some (w : World) (v0 : Value) (z : List Int) (hv : IntsAt w v0 z) (hz : i64ok z) (hm : z.length ≤ maxLen) (h0 : 0 < (pairs z).length)
    (t : Int) (l2 : -9223372036854775808 ≤ t) (u2 : t ≤ 9223372036854775807) :
    Calls Try.prog 11 #[v0, .int .i64 t] w fun e w' => e = .returned (.bool true) ∧ Bl w w' := by
  have A1 := Lib.hid (fun w => around_any t 40 w l2 u2 (by omega) (by omega))
  have a0 := around_lo t 40 (by omega); have a1 := around_hi t 40 (by omega)
  obtain ⟨ta, hta⟩ : ∃ a, around t 40 = a := ⟨_, rfl⟩
  rw [hta] at A1 a0 a1
  clear hta
  have HL := Lib.hid (pairs_fair z)
  have hl := pairs_len z
  have P0 := Lib.hid (pairs_any z v0 w hz hv hm)
  obtain ⟨L, hL⟩ : ∃ L, pairs z = L := ⟨_, rfl⟩
  rw [hL] at HL hl P0 h0
  clear hL hv hz hm
  obtain ⟨T, hT⟩ : ∃ T, 1 + ta = T := ⟨_, rfl⟩
  have T1 : 1 ≤ T := by omega
  have T2 : T ≤ 40 := by omega
  go_enter Try.func11, Try.ntmps11
  go_wp2_with fail
  refine P0.out.mono ?_
  rintro e w1 ⟨va, rfl, hva, hb1⟩
  have HP := Lib.hid (fun w' (h : Bl w1 w') => Rd.below hva h)
  have hva2 := hva
  rcases hva with ⟨a, c, _, hh, _⟩ | ⟨b, off, cap, rfl, hcap, _, hbs, _⟩
  · omega
  have HC := Lib.hid (fun w' (h : Bl w1 w') => fixFar.pair_cells (Rd.below hva2 h))
  clear hva2
  go_wp2_with fail
  refine (A1.out _).mono ?_
  rintro e w' ⟨rfl, rfl⟩
  go_wp2_with fail
  go_loopw [8, 9] (fun s i wr => ∃ k : Nat, k ≤ L.length ∧ s = I (best (L.take k)) ∧ i = I k ∧ Bl w1 wr) (fun _ i _ => L.length - (intOf i).toNat)
  case atStart => exact ⟨0, by omega, rfl, rfl, Bl.rfl' _⟩
  case round =>
    obtain ⟨k, hk, rfl, rfl, hbl⟩ := hrel
    by_cases hlt : k < L.length
    · obtain ⟨c0, c1⟩ := HC.out wr hbl k hlt
      have hf : fair (L.getD k (0, 0)) := HL.out _ (getD_mem L k (0, 0) hlt)
      have hs := best_snoc (L.take k) (L.getD k (0, 0))
      rw [← take_snoc L k (0, 0) hlt] at hs
      obtain ⟨r0, r1⟩ := best_range (L.take k) (fun p hp => HL.out p (List.mem_of_mem_take hp))
      obtain ⟨⟨x, y⟩, hxy⟩ : ∃ p, L.getD k (0, 0) = p := ⟨_, rfl⟩
      rw [hxy] at c0 c1 hf hs
      simp only [sh] at c0 c1 hs
      have Hs := Lib.hid hs
      clear hxy hs
      have k1 : (k : Int) < L.length := by omega
      go_wp2_with fail
      go_quiet ((go_at_call 33; exact Calls.quiet_of_same (rshare_q _ _ _ hf)))
      go_wp2_with fail
      go_roundw
      case rel => exact ⟨k + 1, by omega, by rw [Hs.out], by go_num, hbl.drn _⟩
      case measure => simp [intOf]; omega
    · obtain rfl : k = L.length := by omega
      rw [List.take_length]
      have HB := Lib.hid (best_ge L)
      obtain ⟨r0, r1⟩ := best_range L HL.out
      have hch := chebyshev L T (by omega)
      clear hlt hk
      have Hch := Lib.hid hch; clear hch
      go_wp2_with fail
      go_loopw [7, 10] (fun s i wr => ∃ k : Nat, k ≤ L.length ∧ s = I (cnt L T (L.take k)) ∧ i = I k ∧ Bl w1 wr) (fun _ i _ => L.length - (intOf i).toNat)
      case atStart => exact ⟨0, by omega, rfl, rfl, hbl⟩
      case round =>
        clear hbl
        obtain ⟨k, hk, rfl, rfl, hbl⟩ := hrel
        by_cases hlt : k < L.length
        · obtain ⟨c0, c1⟩ := HC.out wr hbl k hlt
          have hmem := getD_mem L k (0, 0) hlt
          have hf : fair (L.getD k (0, 0)) := HL.out _ hmem
          have hs := cnt_snoc L T (L.take k) (L.getD k (0, 0))
          rw [← take_snoc L k (0, 0) hlt] at hs
          have hr := cnt_range L T (L.take k)
          rw [List.length_take_of_le (by omega)] at hr
          obtain ⟨r3, r4⟩ := hr
          have hbt : sh (L.getD k (0, 0)) = best L → farB (L.getD k (0, 0)).1 (L.getD k (0, 0)).2 L T = false := fun h => far_best _ L T (by rw [h]; exact HB.out)
          have hft := far_less (L.getD k (0, 0)) L T T1
          obtain ⟨⟨x, y⟩, hxy⟩ : ∃ p, L.getD k (0, 0) = p := ⟨_, rfl⟩
          rw [hxy] at c0 c1 hf hs hbt hft
          simp only [sh] at c0 c1 hs hbt hft
          have Hbt := Lib.hid hbt; have Hft := Lib.hid hft
          clear hxy hbt hft hmem
          have k1 : (k : Int) < L.length := by omega
          have F1 := Lib.hid (fun w (h : Bl w1 w) => far_any x y T L _ w hf HL.out (by omega) (by omega) (by omega) (HP.out w h))
          have F2 := Lib.hid (fun w (h : Bl w1 w) => far_any x y (T - 1) L _ w hf HL.out (by omega) (by omega) (by omega) (HP.out w h))
          rcases Bool.eq_false_or_eq_true (farB x y L T) with hB1 | hB1
          · rw [hB1] at hs F1
            have hB2 := Hft.out hB1
            rw [hB2] at F2
            have hne : (share x y == best L) = false := by
              rw [beq_eq_false_iff_ne]; intro h
              have := Hbt.out h; rw [hB1] at this; cases this
            rw [if_pos rfl] at hs
            have Hs := Lib.hid hs
            clear hs hB1 hB2
            go_wp2_with fail
            refine (F1.out _ (hbl.al _)).mono ?_
            rintro e w5 ⟨rfl, hb5⟩
            have d0 : w5.cell? ⟨wr.heap.size, 0, none⟩ = some (.int .i64 x) := (hb5.cell (p := ⟨wr.heap.size, 0, none⟩) (by simp)).trans (by simp)
            have d1 : w5.cell? ⟨wr.heap.size, 1, none⟩ = some (.int .i64 y) := (hb5.cell (p := ⟨wr.heap.size, 1, none⟩) (by simp)).trans (by simp)
            have hb6 := (hbl.al _).tr hb5
            go_wp2_with fail
            refine (rshare_any x y _ hf).mono ?_
            rintro e w' ⟨rfl, rfl⟩
            go_wp2_with fail
            refine (F2.out _ hb6).mono ?_
            rintro e w7 ⟨rfl, hb7⟩
            go_wp2_with fail
            go_roundw
            case rel => exact ⟨k + 1, by omega, by rw [Hs.out], by go_num, hb6.tr hb7⟩
            case measure => simp [intOf]; omega
          · rw [hB1] at hs F1
            rw [if_neg (by simp), Int.add_zero] at hs
            have Hs := Lib.hid hs
            clear hs hB1
            go_wp2_with fail
            refine (F1.out _ (hbl.al _)).mono ?_
            rintro e w5 ⟨rfl, hb5⟩
            have d0 : w5.cell? ⟨wr.heap.size, 0, none⟩ = some (.int .i64 x) := (hb5.cell (p := ⟨wr.heap.size, 0, none⟩) (by simp)).trans (by simp)
            have d1 : w5.cell? ⟨wr.heap.size, 1, none⟩ = some (.int .i64 y) := (hb5.cell (p := ⟨wr.heap.size, 1, none⟩) (by simp)).trans (by simp)
            have hb6 := (hbl.al _).tr hb5
            go_wp2_with fail
            go_roundw
            case rel => exact ⟨k + 1, by omega, by rw [Hs.out], by go_num, hb6⟩
            case measure => simp [intOf]; omega
        · obtain rfl : k = L.length := by omega
          rw [List.take_length]
          have hr := cnt_range L T L
          have hch := Hch.out
          obtain ⟨C, hC⟩ : ∃ C, cnt L T L = C := ⟨_, rfl⟩
          rw [hC] at hr hch ⊢
          obtain ⟨r3, r4⟩ := hr
          obtain ⟨m1, m2⟩ := mul_in (a := C) (b := T) (A := 20) (B := 40) r3 (by omega) (by omega) T2
          obtain ⟨CT, hCT⟩ : ∃ x, C * T = x := ⟨_, rfl⟩
          rw [hCT] at hch m1 m2
          obtain ⟨m3, m4⟩ := mul_in (a := CT) (b := T) (A := 800) (B := 40) m1 (by omega) (by omega) T2
          have hd : decide (CT * T ≤ 100 * (L.length : Int)) = true := by simpa using hch
          clear hlt hC
          go_wp2_with fail
          refine (lives01 _).mono ?_
          rintro e w5 ⟨rfl, hb5⟩
          go_wp2_with fail
          go_ret
          exact ⟨rfl, (hb1.tr hbl).tr hb5⟩

theorem walk (w : World) (v0 : Value) (z : List Int) (hv : IntsAt w v0 z) (hz : i64ok z) (hm : z.length ≤ maxLen)
    (t : Int) (l2 : -9223372036854775808 ≤ t) (u2 : t ≤ 9223372036854775807) :
    Calls Try.prog 11 #[v0, .int .i64 t] w fun e w' => e = .returned (.bool true) ∧ Bl w w' := by
  rcases Nat.eq_zero_or_pos (pairs z).length with h0 | h0
  · exact walk_nil w v0 z hv hz hm (List.eq_nil_of_length_eq_zero h0) t l2 u2
  · exact walk_some w v0 z hv hz hm h0 t l2 u2

end Go.Proofs.Ytpobachhplbamaa.fixChebyshev
