/-
  FixOrder is true for every input: Cmp is a total order that Down keeps, of whole numbers theirs, and blind to a common factor. No condition.
-/
import Derived.Test.YtpobachhplbamaaCmp
import Derived.Test.YtpobachhplbamaaKit2
import Derived.Test.YtpobachhplbamaaLives01
import Derived.Deep.RegionHeld3
namespace Go.Proofs.Ytpobachhplbamaa.fixOrder
open Go.ChangeShapes Go.WideShapes Go.ChangeAt Go.RowKit
set_option linter.unusedVariables false
set_option linter.unusedSimpArgs false

theorem cmpq_lt {a b c d : Int} (h : a * d < c * b) : cmpq a b c d = -1 := cmpi_lt h
theorem cmpq_eq {a b c d : Int} (h : a * d = c * b) : cmpq a b c d = 0 := cmpi_eq h
theorem cmpq_gt {a b c d : Int} (h : c * b < a * d) : cmpq a b c d = 1 := cmpi_gt h
theorem tri (a b c d : Int) : (a * d < c * b ∧ cmpq a b c d = -1) ∨ (a * d = c * b ∧ cmpq a b c d = 0) ∨ (c * b < a * d ∧ cmpq a b c d = 1) := by
  rcases Int.lt_trichotomy (a * d) (c * b) with h | h | h
  · exact Or.inl ⟨h, cmpq_lt h⟩
  · exact Or.inr (Or.inl ⟨h, cmpq_eq h⟩)
  · exact Or.inr (Or.inr ⟨h, cmpq_gt h⟩)
theorem anti (a b c d : Int) : cmpq a b c d = - cmpq c d a b := by
  rcases tri a b c d with ⟨h, e⟩ | ⟨h, e⟩ | ⟨h, e⟩
  · rw [e, cmpq_gt h]
  · rw [e, cmpq_eq h.symm]; rfl
  · rw [e, cmpq_lt h]; rfl
theorem le_iff (a b c d : Int) : cmpq a b c d ≤ 0 ↔ a * d ≤ c * b := by
  rcases tri a b c d with ⟨h, e⟩ | ⟨h, e⟩ | ⟨h, e⟩ <;> rw [e] <;> omega
theorem eq_iff (a b c d : Int) : cmpq a b c d = 0 ↔ a * d = c * b := by
  rcases tri a b c d with ⟨h, e⟩ | ⟨h, e⟩ | ⟨h, e⟩ <;> rw [e] <;> omega
theorem le_tr {a b c d e f : Int} (hb : 0 < b) (hd : 0 < d) (hf : 0 < f) (h1 : a * d ≤ c * b) (h2 : c * f ≤ e * d) : a * f ≤ e * b := by
  have e1 : a * d * f ≤ c * b * f := Int.mul_le_mul_of_nonneg_right h1 (by omega)
  have e2 : c * f * b ≤ e * d * b := Int.mul_le_mul_of_nonneg_right h2 (by omega)
  have e3 : c * b * f = c * f * b := by ac_rfl
  have e4 : a * f * d ≤ e * b * d := by
    have : a * f * d = a * d * f := by ac_rfl
    have : e * b * d = e * d * b := by ac_rfl
    omega
  exact Int.le_of_mul_le_mul_right e4 hd
theorem trans1 {a b c d e f : Int} (hb : 0 < b) (hd : 0 < d) (hf : 0 < f) (h1 : cmpq a b c d ≤ 0) (h2 : cmpq c d e f ≤ 0) : cmpq a b e f ≤ 0 :=
  (le_iff ..).2 (le_tr hb hd hf ((le_iff ..).1 h1) ((le_iff ..).1 h2))
theorem trans2 {a b c d e f : Int} (hb : 0 < b) (hd : 0 < d) (hf : 0 < f) (h1 : cmpq a b c d = 0) : cmpq c d e f = cmpq a b e f := by
  have h := (eq_iff ..).1 h1
  have k1 : c * f ≤ e * d → a * f ≤ e * b := fun g => le_tr hb hd hf (Int.le_of_eq h) g
  have k2 : a * f ≤ e * b → c * f ≤ e * d := fun g => le_tr hd hb hf (Int.le_of_eq h.symm) g
  have k3 : e * d ≤ c * f → e * b ≤ a * f := fun g => le_tr hf hd hb g (Int.le_of_eq h.symm)
  have k4 : e * b ≤ a * f → e * d ≤ c * f := fun g => le_tr hf hb hd g (Int.le_of_eq h)
  rcases tri c d e f with ⟨g, q⟩ | ⟨g, q⟩ | ⟨g, q⟩
  · rw [q, cmpq_lt]
    rcases Int.lt_or_le (a * f) (e * b) with y | y
    · exact y
    · have := k4 y; omega
  · rw [q, cmpq_eq]; have := k1 (by omega); have := k3 (by omega); omega
  · rw [q, cmpq_gt]
    rcases Int.lt_or_le (e * b) (a * f) with y | y
    · exact y
    · have := k2 y; omega
theorem scaled {a b c d m : Int} (hm : 0 < m) : cmpq (a * m) (b * m) c d = cmpq a b c d := by
  have e1 : a * m * d = a * d * m := by ac_rfl
  have e2 : c * (b * m) = c * b * m := by ac_rfl
  rcases tri a b c d with ⟨h, e⟩ | ⟨h, e⟩ | ⟨h, e⟩
  · rw [e, cmpq_lt]; rw [e1, e2]; exact Int.mul_lt_mul_of_pos_right h hm
  · rw [e, cmpq_eq]; rw [e1, e2, h]
  · rw [e, cmpq_gt]; rw [e1, e2]; exact Int.mul_lt_mul_of_pos_right h hm
theorem keeps {a b c d : Int} (hb : 0 < b) (hd : 0 < d) (h : cmpq a b c d ≤ 0) : a / b ≤ c / d := by
  have h := (le_iff ..).1 h
  rw [Int.le_ediv_iff_mul_le hd]
  have e1 : a / b * d * b ≤ c * b := by
    have : a / b * b ≤ a := Int.ediv_mul_le a (by omega)
    have e : a / b * d * b = a / b * b * d := by ac_rfl
    have : a / b * b * d ≤ a * d := Int.mul_le_mul_of_nonneg_right this (by omega)
    omega
  exact Int.le_of_mul_le_mul_right e1 hb
theorem mul_box {n m L M : Int} (h0 : -L ≤ n) (h1 : n ≤ L) (m0 : 0 < m) (m1 : m ≤ M) (hL : 0 ≤ L) : -(L * M) ≤ n * m ∧ n * m ≤ L * M := by
  have e1 : n * m ≤ L * m := Int.mul_le_mul_of_nonneg_right h1 (by omega)
  have e2 : L * m ≤ L * M := Int.mul_le_mul_of_nonneg_left m1 hL
  have e3 : (-n) * m ≤ L * m := Int.mul_le_mul_of_nonneg_right (by omega) (by omega)
  have e4 : (-n) * m = -(n * m) := Int.neg_mul ..
  omega
theorem wrap_in {x : Int} (h : -(1073741824 * 1000) ≤ x ∧ x ≤ 1073741824 * 1000) : IntKind.i64.wrap x = x := by rw [IntKind.wrap_i64]; omega
theorem six (z : List Int) (h : z.length = 6) : ∃ a b c d e f, z = [a, b, c, d, e, f] := by
  match z, h with
  | [a, b, c, d, e, f], _ => exact ⟨a, b, c, d, e, f, rfl⟩

theorem new_cells (w w' : World) (t : TypeId) (x y z : Value) (h : Bl (w.alloc (.cells #[x, y, z] t)) w') :
    w'.cell? ⟨w.heap.size, 0, none⟩ = some x ∧ w'.cell? ⟨w.heap.size, 1, none⟩ = some y ∧ w'.cell? ⟨w.heap.size, 2, none⟩ = some z := by
  have hs : (w.alloc (.cells #[x, y, z] t)).heap.size = w.heap.size + 1 := by simp
  refine ⟨(h.cell (p := ⟨w.heap.size, 0, none⟩) (by rw [hs]; exact Nat.lt_succ_self _)).trans ?_, (h.cell (p := ⟨w.heap.size, 1, none⟩) (by rw [hs]; exact Nat.lt_succ_self _)).trans ?_, (h.cell (p := ⟨w.heap.size, 2, none⟩) (by rw [hs]; exact Nat.lt_succ_self _)).trans ?_⟩ <;> simp

abbrev wk (w : World) (B A D : Array Value) : World := ((w.alloc (.cells B 33)).alloc (.cells A 34)).alloc (.cells D 34)

set_option maxHeartbeats 4000000 in
theorem walk (z : List Int) (hn : z.length = 6) (hz : i64ok z) (k : Int) (lk : -9223372036854775808 ≤ k) (uk : k ≤ 9223372036854775807) (w : World) :
    Calls Try.prog 9 #[.agg (z.map I).toArray, .int .i64 k] w fun e w' => e = .returned (.bool true) ∧ Bl w w' := by
  obtain ⟨a, b, c, d, e, f, rfl⟩ := six z hn
  have ha := hz a (by simp); have hb := hz b (by simp); have hc := hz c (by simp); have hd := hz d (by simp); have he := hz e (by simp); have hf := hz f (by simp)
  clear hz hn
  have A0 := Lib.hid (fun w => around_any a 2147483648 w ha.1 ha.2 (by omega) (by omega))
  have A1 := Lib.hid (fun w => around_any b 2147483648 w hb.1 hb.2 (by omega) (by omega))
  have A2 := Lib.hid (fun w => around_any c 2147483648 w hc.1 hc.2 (by omega) (by omega))
  have A3 := Lib.hid (fun w => around_any d 1073741824 w hd.1 hd.2 (by omega) (by omega))
  have A4 := Lib.hid (fun w => around_any e 1073741824 w he.1 he.2 (by omega) (by omega))
  have A5 := Lib.hid (fun w => around_any f 1073741824 w hf.1 hf.2 (by omega) (by omega))
  have a0 := around_lo a 2147483648 (by omega); have a1 := around_hi a 2147483648 (by omega)
  have b0 := around_lo b 2147483648 (by omega); have b1 := around_hi b 2147483648 (by omega)
  have c0 := around_lo c 2147483648 (by omega); have c1 := around_hi c 2147483648 (by omega)
  have d0 := around_lo d 1073741824 (by omega); have d1 := around_hi d 1073741824 (by omega)
  have e0 := around_lo e 1073741824 (by omega); have e1 := around_hi e 1073741824 (by omega)
  have f0 := around_lo f 1073741824 (by omega); have f1 := around_hi f 1073741824 (by omega)
  obtain ⟨x0, hx0⟩ : ∃ t, around a 2147483648 = t := ⟨_, rfl⟩
  obtain ⟨x1, hx1⟩ : ∃ t, around b 2147483648 = t := ⟨_, rfl⟩
  obtain ⟨x2, hx2⟩ : ∃ t, around c 2147483648 = t := ⟨_, rfl⟩
  obtain ⟨y0, hy0⟩ : ∃ t, around d 1073741824 = t := ⟨_, rfl⟩
  obtain ⟨y1, hy1⟩ : ∃ t, around e 1073741824 = t := ⟨_, rfl⟩
  obtain ⟨y2, hy2⟩ : ∃ t, around f 1073741824 = t := ⟨_, rfl⟩
  rw [hx0] at A0 a0 a1; rw [hx1] at A1 b0 b1; rw [hx2] at A2 c0 c1; rw [hy0] at A3 d0 d1; rw [hy1] at A4 e0 e1; rw [hy2] at A5 f0 f1
  clear hx0 hx1 hx2 hy0 hy1 hy2 ha hb hc hd he hf
  have M0 := Lib.hid (fun w => around_any k 1000 w lk uk (by omega) (by omega))
  have k0 := around_lo k 1000 (by omega); have k1 := around_hi k 1000 (by omega)
  obtain ⟨m', hm'⟩ : ∃ t, around k 1000 = t := ⟨_, rfl⟩
  rw [hm'] at M0 k0 k1
  clear hm'
  obtain ⟨m, hm⟩ : ∃ t, 1 + m' = t := ⟨_, rfl⟩
  obtain ⟨n0, hn0⟩ : ∃ t, x0 - 1073741824 = t := ⟨_, rfl⟩
  obtain ⟨n1, hn1⟩ : ∃ t, x1 - 1073741824 = t := ⟨_, rfl⟩
  obtain ⟨n2, hn2⟩ : ∃ t, x2 - 1073741824 = t := ⟨_, rfl⟩
  obtain ⟨q0, hq0⟩ : ∃ t, 1 + y0 = t := ⟨_, rfl⟩
  obtain ⟨q1, hq1⟩ : ∃ t, 1 + y1 = t := ⟨_, rfl⟩
  obtain ⟨q2, hq2⟩ : ∃ t, 1 + y2 = t := ⟨_, rfl⟩
  have m0 : 0 < m := by omega
  have m1 : m ≤ 1000 := by omega
  have n00 : -1073741824 ≤ n0 := by omega
  have n01 : n0 ≤ 1073741824 := by omega
  have n10 : -1073741824 ≤ n1 := by omega
  have n11 : n1 ≤ 1073741824 := by omega
  have n20 : -1073741824 ≤ n2 := by omega
  have n21 : n2 ≤ 1073741824 := by omega
  have q00 : 0 < q0 := by omega
  have q01 : q0 ≤ 1073741824 := by omega
  have q10 : 0 < q1 := by omega
  have q11 : q1 ≤ 1073741824 := by omega
  have q20 : 0 < q2 := by omega
  have q21 : q2 ≤ 1073741824 := by omega
  replace hm := Lib.hid hm
  simp only [List.map_cons, List.map_nil]
  go_enter Try.func9, Try.ntmps9
  go_wp2_with fail
  go_loopw [7] (fun i wr => (i = I 0 ∧ wr = wk w #[I a, I b, I c, I d, I e, I f] #[I 0, I 0, I 0] #[I 0, I 0, I 0]) ∨ (i = I 1 ∧ wr = wk w #[I a, I b, I c, I d, I e, I f] #[I n0, I 0, I 0] #[I q0, I 0, I 0]) ∨ (i = I 2 ∧ wr = wk w #[I a, I b, I c, I d, I e, I f] #[I n0, I n1, I 0] #[I q0, I q1, I 0]) ∨ (i = I 3 ∧ wr = wk w #[I a, I b, I c, I d, I e, I f] #[I n0, I n1, I n2] #[I q0, I q1, I q2])) (fun i _ => 3 - (intOf i).toNat)
  case atStart => exact Or.inl ⟨rfl, rfl⟩
  case round =>
    rcases hrel with ⟨rfl, rfl⟩ | ⟨rfl, rfl⟩ | ⟨rfl, rfl⟩ | ⟨rfl, hwr⟩
    · go_wp2_with fail
      refine (A0.out _).mono ?_
      rintro e w' ⟨rfl, rfl⟩
      go_wp2_with fail
      refine (A3.out _).mono ?_
      rintro e w' ⟨rfl, rfl⟩
      go_wp2_with fail
      go_roundw
      case rel => exact Or.inr (Or.inl ⟨rfl, trivial⟩)
      case measure => simp [intOf]
    · go_wp2_with fail
      refine (A1.out _).mono ?_
      rintro e w' ⟨rfl, rfl⟩
      go_wp2_with fail
      refine (A4.out _).mono ?_
      rintro e w' ⟨rfl, rfl⟩
      go_wp2_with fail
      go_roundw
      case rel => exact Or.inr (Or.inr (Or.inl ⟨rfl, trivial⟩))
      case measure => simp [intOf]
    · go_wp2_with fail
      refine (A2.out _).mono ?_
      rintro e w' ⟨rfl, rfl⟩
      go_wp2_with fail
      refine (A5.out _).mono ?_
      rintro e w' ⟨rfl, rfl⟩
      go_wp2_with fail
      go_roundw
      case rel => exact Or.inr (Or.inr (Or.inr ⟨rfl, trivial⟩))
      case measure => simp [intOf]
    · have hb0 : Bl w wr := by rw [hwr]; exact (((Bl.rfl' _).al _).al _).al _
      have hA : ∀ w', Bl wr w' → w'.cell? ⟨w.heap.size + 1, 0, none⟩ = some (I n0) ∧ w'.cell? ⟨w.heap.size + 1, 1, none⟩ = some (I n1) ∧ w'.cell? ⟨w.heap.size + 1, 2, none⟩ = some (I n2) := by
        intro w' h
        have := new_cells (w.alloc (.cells #[I a, I b, I c, I d, I e, I f] 33)) w' 34 (I n0) (I n1) (I n2) (Bl.tr (by rw [hwr]; exact (Bl.rfl' _).al _) h)
        rwa [show (w.alloc (.cells #[I a, I b, I c, I d, I e, I f] 33)).heap.size = w.heap.size + 1 from by simp] at this
      have hD : ∀ w', Bl wr w' → w'.cell? ⟨w.heap.size + 2, 0, none⟩ = some (I q0) ∧ w'.cell? ⟨w.heap.size + 2, 1, none⟩ = some (I q1) ∧ w'.cell? ⟨w.heap.size + 2, 2, none⟩ = some (I q2) := by
        intro w' h
        have := new_cells ((w.alloc (.cells #[I a, I b, I c, I d, I e, I f] 33)).alloc (.cells #[I n0, I n1, I n2] 34)) w' 34 (I q0) (I q1) (I q2) (by rw [hwr] at h; exact h)
        rwa [show ((w.alloc (.cells #[I a, I b, I c, I d, I e, I f] 33)).alloc (.cells #[I n0, I n1, I n2] 34)).heap.size = w.heap.size + 2 from by simp] at this
      have K := Lib.hid (fun w' (h : Bl wr w') => (⟨h, (hA w' h).1, (hA w' h).2.1, (hA w' h).2.2, (hD w' h).1, (hD w' h).2.1, (hD w' h).2.2⟩ : Bl wr w' ∧ w'.cell? ⟨w.heap.size + 1, 0, none⟩ = some (I n0) ∧ w'.cell? ⟨w.heap.size + 1, 1, none⟩ = some (I n1) ∧ w'.cell? ⟨w.heap.size + 1, 2, none⟩ = some (I n2) ∧ w'.cell? ⟨w.heap.size + 2, 0, none⟩ = some (I q0) ∧ w'.cell? ⟨w.heap.size + 2, 1, none⟩ = some (I q1) ∧ w'.cell? ⟨w.heap.size + 2, 2, none⟩ = some (I q2)))
      obtain ⟨ca0, ca1, ca2⟩ := hA wr (Bl.rfl' _)
      obtain ⟨cd0, cd1, cd2⟩ := hD wr (Bl.rfl' _)
      clear hA hD hwr A0 A1 A2 A3 A4 A5
      have tr1 := trans1 (a := n0) (c := n1) (e := n2) q00 q10 q20
      have tr2 := trans2 (a := n0) (c := n1) (e := n2) q00 q10 q20
      have an := anti n1 q1 n0 q0
      have kp := keeps (a := n0) (c := n1) q00 q10
      have sc := scaled (a := n0) (b := q0) (c := n1) (d := q1) m0
      have w1 : (decide (cmpq n0 1 n1 1 < 0) == decide (n0 < n1)) = true := by
        rcases tri n0 1 n1 1 with ⟨h, e⟩ | ⟨h, e⟩ | ⟨h, e⟩ <;> rw [e] <;> simp <;> omega
      have r1 := cmpi_range (n0 * q1) (n1 * q0)
      have r2 := cmpi_range (n1 * q2) (n2 * q1)
      have r3 := cmpi_range (n0 * q2) (n2 * q0)
      have p1 := mul_box (L := 1073741824) (M := 1000) n00 n01 m0 m1 (by omega)
      have p2 := mul_box (L := 1073741824) (M := 1000) (show -1073741824 ≤ q0 by omega) q01 m0 m1 (by omega)
      have p3 : 0 < q0 * m := Int.mul_pos q00 m0
      have C1 := fun w => cmp_any n0 q0 n1 q1 w (by omega) (by omega) q00 (by omega) (by omega) (by omega) q10 (by omega)
      have C2 := fun w => cmp_any n1 q1 n0 q0 w (by omega) (by omega) q10 (by omega) (by omega) (by omega) q00 (by omega)
      have C3 := fun w => cmp_any n1 q1 n2 q2 w (by omega) (by omega) q10 (by omega) (by omega) (by omega) q20 (by omega)
      have C4 := fun w => cmp_any n0 q0 n2 q2 w (by omega) (by omega) q00 (by omega) (by omega) (by omega) q20 (by omega)
      have D0 := Lib.hid (fun w => down_any n0 q0 w (by omega) (by omega) q00 (by omega))
      have D1 := Lib.hid (fun w => down_any n1 q1 w (by omega) (by omega) q10 (by omega))
      have C6 := fun w => cmp_any n0 1 n1 1 w (by omega) (by omega) (by omega) (by omega) (by omega) (by omega) (by omega) (by omega)
      have C5 := fun w => cmp_any (n0 * m) (q0 * m) n1 q1 w (by omega) (by omega) p3 (by omega) (by omega) (by omega) q10 (by omega)
      rw [sc] at C5
      change -1 ≤ cmpq n0 q0 n1 q1 ∧ cmpq n0 q0 n1 q1 ≤ 1 at r1
      change -1 ≤ cmpq n1 q1 n2 q2 ∧ cmpq n1 q1 n2 q2 ≤ 1 at r2
      change -1 ≤ cmpq n0 q0 n2 q2 ∧ cmpq n0 q0 n2 q2 ≤ 1 at r3
      rw [an] at C2
      obtain ⟨ab, hab⟩ : ∃ t, cmpq n0 q0 n1 q1 = t := ⟨_, rfl⟩
      obtain ⟨bc, hbc⟩ : ∃ t, cmpq n1 q1 n2 q2 = t := ⟨_, rfl⟩
      obtain ⟨ac, hac⟩ : ∃ t, cmpq n0 q0 n2 q2 = t := ⟨_, rfl⟩
      obtain ⟨wh, hwh⟩ : ∃ t, cmpq n0 1 n1 1 = t := ⟨_, rfl⟩
      rw [hab] at C1 C2 C5 tr1 tr2 kp r1
      rw [hbc] at C3 tr1 tr2 r2
      rw [hac] at C4 tr1 tr2 r3
      rw [hwh] at C6 w1
      obtain ⟨fl0, hf0⟩ : ∃ t, n0 / q0 = t := ⟨_, rfl⟩
      obtain ⟨fl1, hf1⟩ : ∃ t, n1 / q1 = t := ⟨_, rfl⟩
      rw [hf0] at D0 kp; rw [hf1] at D1 kp
      replace C1 := Lib.hid C1; replace C2 := Lib.hid C2; replace C3 := Lib.hid C3; replace C4 := Lib.hid C4; replace C6 := Lib.hid C6
      rw [← wrap_in p1, ← wrap_in p2] at C5
      replace C5 := Lib.hid C5
      have tr2' := fun h => tr2 h
      clear hab hbc hac hwh hf0 hf1 an sc tr2
      have T1 := Lib.hid tr1; have T2 := Lib.hid tr2'; have KP := Lib.hid kp
      clear tr1 tr2' kp
      go_wp2_with fail
      refine (C1.out _).mono ?_
      rintro e x1 ⟨rfl, j1⟩
      clear ca0 ca1 ca2 cd0 cd1 cd2
      obtain ⟨-, ca0, ca1, ca2, cd0, cd1, cd2⟩ := K.out _ j1
      go_wp2_with fail
      refine (C2.out _).mono ?_
      rintro e x2 ⟨rfl, j2⟩
      replace j2 := Bl.tr j1 j2
      clear ca0 ca1 ca2 cd0 cd1 cd2
      obtain ⟨-, ca0, ca1, ca2, cd0, cd1, cd2⟩ := K.out _ j2
      go_wp2_with fail
      refine (C3.out _).mono ?_
      rintro e x3 ⟨rfl, j3⟩
      replace j3 := Bl.tr j2 j3
      clear ca0 ca1 ca2 cd0 cd1 cd2
      obtain ⟨-, ca0, ca1, ca2, cd0, cd1, cd2⟩ := K.out _ j3
      go_wp2_with fail
      refine (C4.out _).mono ?_
      rintro e wx ⟨rfl, j4⟩
      replace j4 := Bl.tr j3 j4
      clear ca0 ca1 ca2 cd0 cd1 cd2
      obtain ⟨-, ca0, ca1, ca2, cd0, cd1, cd2⟩ := K.out _ j4
      replace hb0 := Bl.tr hb0 j4
      have K' := Lib.hid (fun w' (h : Bl wx w') => (⟨h, (K.out w' (Bl.tr j4 h)).2⟩ : Bl wx w' ∧ w'.cell? ⟨w.heap.size + 1, 0, none⟩ = some (I n0) ∧ w'.cell? ⟨w.heap.size + 1, 1, none⟩ = some (I n1) ∧ w'.cell? ⟨w.heap.size + 1, 2, none⟩ = some (I n2) ∧ w'.cell? ⟨w.heap.size + 2, 0, none⟩ = some (I q0) ∧ w'.cell? ⟨w.heap.size + 2, 1, none⟩ = some (I q1) ∧ w'.cell? ⟨w.heap.size + 2, 2, none⟩ = some (I q2)))
      clear j1 j2 j3 j4 K
      have K := K'
      clear K'
      replace hb0 := Lib.hid hb0
      have Z := Lib.hid (⟨lk, uk, ⟨k0, k1⟩, p1, p2, p3, ⟨q10, q11⟩⟩ : -9223372036854775808 ≤ k ∧ k ≤ 9223372036854775807 ∧ (0 ≤ m' ∧ m' < 1000) ∧ (-(1073741824 * 1000) ≤ n0 * m ∧ n0 * m ≤ 1073741824 * 1000) ∧ (-(1073741824 * 1000) ≤ q0 * m ∧ q0 * m ≤ 1073741824 * 1000) ∧ 0 < q0 * m ∧ 0 < q1 ∧ q1 ≤ 1073741824)
      replace w1 := Lib.hid w1
      clear lk uk k0 k1 p1 p2 p3 a0 a1 b0 b1 c0 c1 d0 d1 e0 e1 f0 f1 hn0 hn1 hn2 hq0 hq1 hq2 m0 m1 n00 n01 n10 n11 n20 n21 q00 q01 q10 q11 q20 q21
      by_cases hab : ab ≤ 0
      · have hk := KP.out hab
        have h2 : (ab ≤ 0 ∧ bc ≤ 0 → ac ≤ 0) := fun h => T1.out h.1 h.2
        have hq : ¬ (fl1 < fl0) := by omega
        by_cases hz : ab = 0
        · subst hz
          have h3 := T2.out rfl
          subst h3
          clear h2 hk
          go_wp2_with fail
          all_goals
            go_quiet ((first
              | (go_at_call 14; with_reducible exact Calls.quiet_of_same (q_of (D0.out _)))
              | (go_at_call 14; with_reducible exact Calls.quiet_of_same (q_of (D1.out _)))))
          all_goals
            obtain ⟨lk, uk, ⟨k0, k1⟩, p1, p2, p3, q10, q11⟩ := Z.out
            go_wp2_with fail
            refine (M0.out _).mono ?_
            rintro e w' ⟨rfl, rfl⟩
            go_wp2_with fail
            rw [hm.out]
            have w1 := w1.out
            have e2 : ((0:Int) == (0:Int)) = true := by simp
            go_region_held3 (fun w' => Bl wx w' ∧ w'.cell? ⟨w.heap.size + 1, 0, none⟩ = some (I n0) ∧ w'.cell? ⟨w.heap.size + 1, 1, none⟩ = some (I n1) ∧ w'.cell? ⟨w.heap.size + 1, 2, none⟩ = some (I n2) ∧ w'.cell? ⟨w.heap.size + 2, 0, none⟩ = some (I q0) ∧ w'.cell? ⟨w.heap.size + 2, 1, none⟩ = some (I q1) ∧ w'.cell? ⟨w.heap.size + 2, 2, none⟩ = some (I q2))
              ((go_split_ands; exact K.out _ (by first | assumption | exact Bl.drewN _ _ | exact Bl.dr (by first | assumption | exact Bl.drewN _ _) | exact Bl.tr (by first | assumption | exact Bl.drewN _ _ | exact Bl.dr (by first | assumption | exact Bl.drewN _ _)) (by assumption))))
              (first
                | (go_at_call 28; go_split_ands; refine Calls.mono (by with_reducible exact C5.out _) ?_; rintro e w5 ⟨rfl, hb5⟩)
                | (go_at_call 28; go_split_ands; refine Calls.mono (by with_reducible exact C6.out _) ?_; rintro e w5 ⟨rfl, hb5⟩)
                | (go_at_call 20; go_split_ands; refine (lives01 _).mono ?_; rintro e w5 ⟨rfl, hb5⟩))
          all_goals
            go_split_ands
            have hb6 : Bl wx w5 := by assumption
            go_wp2_with fail
            go_ret
            exact ⟨rfl, hb0.out.tr hb6⟩

        · obtain rfl : ab = -1 := by omega
          by_cases hbc : bc ≤ 0
          · have h4 := h2 ⟨by omega, hbc⟩
            clear h2 hk
            go_wp2_with fail
            all_goals
              go_quiet ((first
                | (go_at_call 14; with_reducible exact Calls.quiet_of_same (q_of (D0.out _)))
                | (go_at_call 14; with_reducible exact Calls.quiet_of_same (q_of (D1.out _)))))
            all_goals
              obtain ⟨lk, uk, ⟨k0, k1⟩, p1, p2, p3, q10, q11⟩ := Z.out
              go_wp2_with fail
              refine (M0.out _).mono ?_
              rintro e w' ⟨rfl, rfl⟩
              go_wp2_with fail
              rw [hm.out]
              have w1 := w1.out
              have e2 : ((-1:Int) == (-1:Int)) = true := by simp
              go_region_held3 (fun w' => Bl wx w' ∧ w'.cell? ⟨w.heap.size + 1, 0, none⟩ = some (I n0) ∧ w'.cell? ⟨w.heap.size + 1, 1, none⟩ = some (I n1) ∧ w'.cell? ⟨w.heap.size + 1, 2, none⟩ = some (I n2) ∧ w'.cell? ⟨w.heap.size + 2, 0, none⟩ = some (I q0) ∧ w'.cell? ⟨w.heap.size + 2, 1, none⟩ = some (I q1) ∧ w'.cell? ⟨w.heap.size + 2, 2, none⟩ = some (I q2))
                ((go_split_ands; exact K.out _ (by first | assumption | exact Bl.drewN _ _ | exact Bl.dr (by first | assumption | exact Bl.drewN _ _) | exact Bl.tr (by first | assumption | exact Bl.drewN _ _ | exact Bl.dr (by first | assumption | exact Bl.drewN _ _)) (by assumption))))
                (first
                  | (go_at_call 28; go_split_ands; refine Calls.mono (by with_reducible exact C5.out _) ?_; rintro e w5 ⟨rfl, hb5⟩)
                  | (go_at_call 28; go_split_ands; refine Calls.mono (by with_reducible exact C6.out _) ?_; rintro e w5 ⟨rfl, hb5⟩)
                  | (go_at_call 20; go_split_ands; refine (lives01 _).mono ?_; rintro e w5 ⟨rfl, hb5⟩))
            all_goals
              go_split_ands
              have hb6 : Bl wx w5 := by assumption
              go_wp2_with fail
              go_ret
              exact ⟨rfl, hb0.out.tr hb6⟩

          · clear h2 hk
            go_wp2_with fail
            all_goals
              go_quiet ((first
                | (go_at_call 14; with_reducible exact Calls.quiet_of_same (q_of (D0.out _)))
                | (go_at_call 14; with_reducible exact Calls.quiet_of_same (q_of (D1.out _)))))
            all_goals
              obtain ⟨lk, uk, ⟨k0, k1⟩, p1, p2, p3, q10, q11⟩ := Z.out
              go_wp2_with fail
              refine (M0.out _).mono ?_
              rintro e w' ⟨rfl, rfl⟩
              go_wp2_with fail
              rw [hm.out]
              have w1 := w1.out
              have e2 : ((-1:Int) == (-1:Int)) = true := by simp
              go_region_held3 (fun w' => Bl wx w' ∧ w'.cell? ⟨w.heap.size + 1, 0, none⟩ = some (I n0) ∧ w'.cell? ⟨w.heap.size + 1, 1, none⟩ = some (I n1) ∧ w'.cell? ⟨w.heap.size + 1, 2, none⟩ = some (I n2) ∧ w'.cell? ⟨w.heap.size + 2, 0, none⟩ = some (I q0) ∧ w'.cell? ⟨w.heap.size + 2, 1, none⟩ = some (I q1) ∧ w'.cell? ⟨w.heap.size + 2, 2, none⟩ = some (I q2))
                ((go_split_ands; exact K.out _ (by first | assumption | exact Bl.drewN _ _ | exact Bl.dr (by first | assumption | exact Bl.drewN _ _) | exact Bl.tr (by first | assumption | exact Bl.drewN _ _ | exact Bl.dr (by first | assumption | exact Bl.drewN _ _)) (by assumption))))
                (first
                  | (go_at_call 28; go_split_ands; refine Calls.mono (by with_reducible exact C5.out _) ?_; rintro e w5 ⟨rfl, hb5⟩)
                  | (go_at_call 28; go_split_ands; refine Calls.mono (by with_reducible exact C6.out _) ?_; rintro e w5 ⟨rfl, hb5⟩)
                  | (go_at_call 20; go_split_ands; refine (lives01 _).mono ?_; rintro e w5 ⟨rfl, hb5⟩))
            all_goals
              go_split_ands
              have hb6 : Bl wx w5 := by assumption
              go_wp2_with fail
              go_ret
              exact ⟨rfl, hb0.out.tr hb6⟩

      · obtain rfl : ab = 1 := by omega
        go_wp2_with fail
        all_goals
          go_quiet ((first
            | (go_at_call 14; with_reducible exact Calls.quiet_of_same (q_of (D0.out _)))
            | (go_at_call 14; with_reducible exact Calls.quiet_of_same (q_of (D1.out _)))))
        all_goals
          obtain ⟨lk, uk, ⟨k0, k1⟩, p1, p2, p3, q10, q11⟩ := Z.out
          go_wp2_with fail
          refine (M0.out _).mono ?_
          rintro e w' ⟨rfl, rfl⟩
          go_wp2_with fail
          rw [hm.out]
          have w1 := w1.out
          have e2 : ((1:Int) == (1:Int)) = true := by simp
          go_region_held3 (fun w' => Bl wx w' ∧ w'.cell? ⟨w.heap.size + 1, 0, none⟩ = some (I n0) ∧ w'.cell? ⟨w.heap.size + 1, 1, none⟩ = some (I n1) ∧ w'.cell? ⟨w.heap.size + 1, 2, none⟩ = some (I n2) ∧ w'.cell? ⟨w.heap.size + 2, 0, none⟩ = some (I q0) ∧ w'.cell? ⟨w.heap.size + 2, 1, none⟩ = some (I q1) ∧ w'.cell? ⟨w.heap.size + 2, 2, none⟩ = some (I q2))
            ((go_split_ands; exact K.out _ (by first | assumption | exact Bl.drewN _ _ | exact Bl.dr (by first | assumption | exact Bl.drewN _ _) | exact Bl.tr (by first | assumption | exact Bl.drewN _ _ | exact Bl.dr (by first | assumption | exact Bl.drewN _ _)) (by assumption))))
            (first
              | (go_at_call 28; go_split_ands; refine Calls.mono (by with_reducible exact C5.out _) ?_; rintro e w5 ⟨rfl, hb5⟩)
              | (go_at_call 28; go_split_ands; refine Calls.mono (by with_reducible exact C6.out _) ?_; rintro e w5 ⟨rfl, hb5⟩)
              | (go_at_call 20; go_split_ands; refine (lives01 _).mono ?_; rintro e w5 ⟨rfl, hb5⟩))
        all_goals
          go_split_ands
          have hb6 : Bl wx w5 := by assumption
          go_wp2_with fail
          go_ret
          exact ⟨rfl, hb0.out.tr hb6⟩

end Go.Proofs.Ytpobachhplbamaa.fixOrder
