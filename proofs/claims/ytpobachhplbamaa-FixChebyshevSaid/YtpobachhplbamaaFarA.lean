/-
  Contracts of layer 1's Far and of its reference: by what slices of pairs read as.
-/
import Derived.Test.YtpobachhplbamaaWide
import Derived.Deep.CutRange
import Derived.Deep.RegionHeld3
namespace Go.Proofs.Ytpobachhplbamaa
open Go.ChangeShapes Go.WideShapes Go.ChangeAt Go.RowKit
set_option linter.unusedVariables false
set_option linter.unusedSimpArgs false

/-- The cells of a list of pairs. -/
def pcell (L : List (Int × Int)) (i : Nat) : Value := if i % 2 = 0 then I (L.getD (i / 2) (0, 0)).1 else I (L.getD (i / 2) (0, 0)).2
def PairsAt (w : World) (v : Value) (L : List (Int × Int)) : Prop := Rd w v L.length (2 * L.length) (pcell L)

def share (g a : Int) : Int := g * 1000 / a
def fair (p : Int × Int) : Prop := 0 ≤ p.1 ∧ p.1 ≤ p.2 ∧ 1 ≤ p.2 ∧ p.2 ≤ 2147483647
theorem share_range {g a : Int} (h : fair (g, a)) : 0 ≤ share g a ∧ share g a ≤ 1000 := by
  obtain ⟨h1, h2, h3, h4⟩ := h
  simp only at h1 h2 h3 h4
  refine ⟨Int.ediv_nonneg (by omega) (by omega), ?_⟩
  have : share g a < 1001 := Int.ediv_lt_of_lt_mul (by omega) (by omega)
  omega
def ssum : List (Int × Int) → Int
  | [] => 0
  | p :: l => share p.1 p.2 + ssum l
def qsum : List (Int × Int) → Int
  | [] => 0
  | p :: l => share p.1 p.2 * share p.1 p.2 + qsum l
theorem ssum_snoc (l : List (Int × Int)) (p : Int × Int) : ssum (l ++ [p]) = ssum l + share p.1 p.2 := by
  induction l with
  | nil => simp [ssum]
  | cons q l ih => simp [ssum, ih]; omega
theorem qsum_snoc (l : List (Int × Int)) (p : Int × Int) : qsum (l ++ [p]) = qsum l + share p.1 p.2 * share p.1 p.2 := by
  induction l with
  | nil => simp [qsum]
  | cons q l ih => simp [qsum, ih]; omega
theorem sq_range {s : Int} (h0 : 0 ≤ s) (h1 : s ≤ 1000) : 0 ≤ s * s ∧ s * s ≤ 1000000 := by
  refine ⟨Int.mul_nonneg h0 h0, ?_⟩
  calc s * s ≤ 1000 * 1000 := Int.mul_le_mul h1 h1 h0 (by omega)
    _ = 1000000 := by omega
theorem sums_range (l : List (Int × Int)) (h : ∀ p ∈ l, fair p) : 0 ≤ ssum l ∧ ssum l ≤ 1000 * l.length ∧ 0 ≤ qsum l ∧ qsum l ≤ 1000000 * l.length := by
  induction l with
  | nil => simp [ssum, qsum]
  | cons p l ih =>
    have hp := share_range (h p (List.mem_cons_self ..))
    have hq := sq_range hp.1 hp.2
    have := ih fun q hq => h q (List.mem_cons_of_mem _ hq)
    simp only [ssum, qsum, List.length_cons]; omega

def farB (g a : Int) (L : List (Int × Int)) (t : Int) : Bool :=
  !L.isEmpty && decide (0 < ssum L - L.length * share g a) && decide (t * t * (L.length * qsum L - ssum L * ssum L) < 100 * (ssum L - L.length * share g a) * (ssum L - L.length * share g a))

theorem two_mul_sum (s : Int) : ∀ l : List (Int × Int), 2 * (s * ssum l) ≤ l.length * (s * s) + qsum l
  | [] => by simp [ssum, qsum]
  | p :: l => by
    have ih := two_mul_sum s l
    simp only [ssum, qsum, List.length_cons]
    generalize share p.1 p.2 = x
    have sq : 0 ≤ (s - x) * (s - x) := by
      rcases Int.le_total 0 (s - x) with h | h
      · exact Int.mul_nonneg h h
      · exact Int.mul_nonneg_of_nonpos_of_nonpos h h
    have e1 : (s - x) * (s - x) = s * s - 2 * (s * x) + x * x := by rw [Int.sub_mul, Int.mul_sub, Int.mul_sub, Int.mul_comm x s]; omega
    have e2 : s * (x + ssum l) = s * x + s * ssum l := Int.mul_add ..
    have e3 : ((l.length + 1 : Nat) : Int) * (s * s) = l.length * (s * s) + s * s := by rw [Int.natCast_add, Int.add_mul]; simp
    omega
theorem cauchy : ∀ l : List (Int × Int), ssum l * ssum l ≤ l.length * qsum l
  | [] => by simp [ssum, qsum]
  | p :: l => by
    have ih := cauchy l
    have h2 := two_mul_sum (share p.1 p.2) l
    simp only [ssum, qsum, List.length_cons]
    generalize share p.1 p.2 = x at *
    have e1 : (x + ssum l) * (x + ssum l) = x * x + 2 * (x * ssum l) + ssum l * ssum l := by rw [Int.add_mul, Int.mul_add, Int.mul_add, Int.mul_comm (ssum l) x]; omega
    have e2 : ((l.length + 1 : Nat) : Int) * (x * x + qsum l) = l.length * (x * x) + x * x + (l.length * qsum l + qsum l) := by rw [Int.natCast_add, Int.add_mul, Int.mul_add]; simp; omega
    omega

theorem fshare_any (g a : Int) (w : World) (h : fair (g, a)) :
    Calls Try.prog 39 #[.int .i64 g, .int .i64 a] w fun e w' => e = .returned (.int .i64 (share g a)) ∧ w = w' := by
  obtain ⟨h1, h2, h3, h4⟩ := h
  simp only at h1 h2 h3 h4
  go_enter Try.func39, Try.ntmps39
  go_wp2_with (go_at_call 14; refine (down_any _ _ _ (by omega) (by omega) (by omega) (by omega)).mono ?_; rintro e w' ⟨rfl, rfl⟩)
  go_ret
  exact ⟨rfl, rfl⟩

theorem rshare_any (g a : Int) (w : World) (h : fair (g, a)) :
    Calls Try.prog 33 #[.int .i64 g, .int .i64 a] w fun e w' => e = .returned (.int .i64 (share g a)) ∧ w = w' := by
  obtain ⟨h1, h2, h3, h4⟩ := h
  simp only at h1 h2 h3 h4
  go_enter Try.func33, Try.ntmps33
  go_wp2
  go_ret
  exact ⟨ret_int rfl, rfl⟩

theorem rshare_q (g a : Int) (w : World) (h : fair (g, a)) :
    Calls Try.prog 33 #[.int .i64 g, .int .i64 a] w fun e w' => e = .returned (.int .i64 (share g a)) ∧ w' = w :=
  (rshare_any g a w h).mono fun e w' hh => ⟨hh.1, hh.2.symm⟩

theorem far_nil (g a t : Int) (b : Option Addr) (c : Nat) (w : World) :
    Calls Try.prog 31 #[.int .i64 g, .int .i64 a, .slice b 0 c, .int .i64 t] w fun e w' => e = .returned (.bool false) ∧ Bl w w' := by
  go_enter Try.func31, Try.ntmps31
  go_wp2
  go_ret
  exact ⟨rfl, Bl.rfl' _⟩

theorem pcell_even (L : List (Int × Int)) (k : Nat) : pcell L (2 * k) = I (L.getD k (0, 0)).1 := by
  unfold pcell; rw [if_pos (by omega), show 2 * k / 2 = k by omega]
theorem pcell_odd (L : List (Int × Int)) (k : Nat) : pcell L (2 * k + 1) = I (L.getD k (0, 0)).2 := by
  unfold pcell; rw [if_neg (by omega), show (2 * k + 1) / 2 = k by omega]

theorem mul_in {a b A B : Int} (a0 : 0 ≤ a) (a1 : a ≤ A) (b0 : 0 ≤ b) (b1 : b ≤ B) : 0 ≤ a * b ∧ a * b ≤ A * B :=
  ⟨Int.mul_nonneg a0 b0, Int.mul_le_mul a1 b1 b0 (by omega)⟩

theorem far_m1 {S P : Int} (h0 : 0 ≤ S) (h1 : S ≤ 1000000) (p0 : 0 ≤ P) (p1 : P ≤ 1000000) : -100000000000000 ≤ 100 * (S - P) * (S - P) ∧ 100 * (S - P) * (S - P) ≤ 100000000000000 := by
  rw [Int.mul_assoc]
  rcases Int.le_total 0 (S - P) with h | h
  · have := mul_in h (show S - P ≤ 1000000 by omega) h (show S - P ≤ 1000000 by omega); omega
  · have := mul_in (a := P - S) (b := P - S) (show 0 ≤ P - S by omega) (show P - S ≤ 1000000 by omega) (by omega) (show P - S ≤ 1000000 by omega)
    have e : (P - S) * (P - S) = (S - P) * (S - P) := by rw [show P - S = -(S - P) by omega, Int.neg_mul_neg]
    omega

theorem far_m2 {t n Q S : Int} (t0 : 0 ≤ t) (t1 : t ≤ 1000) (n0 : 0 ≤ n) (n1 : n ≤ 1000) (q0 : 0 ≤ Q) (q1 : Q ≤ 1000000000) (s0 : 0 ≤ S) (s1 : S ≤ 1000000) :
    0 ≤ t * t ∧ t * t ≤ 1000000 ∧ 0 ≤ n * Q ∧ n * Q ≤ 1000000000000 ∧ 0 ≤ S * S ∧ S * S ≤ 1000000000000 ∧ -1000000000000000000 ≤ t * t * (n * Q - S * S) ∧ t * t * (n * Q - S * S) ≤ 1000000000000000000 := by
  have h1 := mul_in t0 t1 t0 t1
  have h2 := mul_in n0 n1 q0 q1
  have h3 := mul_in s0 s1 s0 s1
  refine ⟨h1.1, h1.2, h2.1, h2.2, h3.1, h3.2, ?_⟩
  generalize t * t = T at *
  obtain ⟨D, hD⟩ : ∃ D, n * Q - S * S = D := ⟨_, rfl⟩
  rw [hD]
  have hD1 : D ≤ 1000000000000 := by omega
  have hD2 : -1000000000000 ≤ D := by omega
  rcases Int.le_total 0 D with h | h
  · have := mul_in (A := 1000000) (B := 1000000000000) h1.1 h1.2 h (by omega); omega
  · have := mul_in (a := T) (b := -D) (A := 1000000) (B := 1000000000000) h1.1 h1.2 (by omega) (by omega)
    rw [Int.mul_neg] at this; omega

set_option maxHeartbeats 1000000 in
theorem far_some (g a t : Int) (L : List (Int × Int)) (b off cap : Nat) (w : World) (hga : fair (g, a)) (hL : ∀ p ∈ L, fair p) (hl0 : 0 < L.length) (hl : L.length ≤ 1000) (ht0 : 0 ≤ t) (ht1 : t ≤ 1000) (hcap : L.length ≤ cap) (hb : b < w.heap.size)
    (hc : ∀ i, i < 2 * L.length → w.cell? ⟨b, off + i, none⟩ = some (pcell L i)) :
    Calls Try.prog 31 #[.int .i64 g, .int .i64 a, .slice (some ⟨b, off, none⟩) L.length cap, .int .i64 t] w fun e w' => e = .returned (.bool (farB g a L t)) ∧ Bl w w' := by
  have hne : ((L.length : Int) == 0) = false := beq_eq_false_iff_ne.2 (by omega)
  have HL := Lib.hid hL; clear hL
  have Hc := Lib.hid hc; clear hc
  go_enter Try.func31, Try.ntmps31
  go_wp2_with fail
  go_loopw [9, 10, 22] (fun s q i wr => ∃ k : Nat, k ≤ L.length ∧ s = I (ssum (L.take k)) ∧ q = I (qsum (L.take k)) ∧ i = I k ∧ Bl w wr) (fun _ _ i _ => L.length - (intOf i).toNat)
  case atStart => exact ⟨0, by omega, rfl, rfl, rfl, Bl.rfl' _⟩
  case round =>
    obtain ⟨k, hk, rfl, rfl, rfl, hbl⟩ := hrel
    by_cases hlt : k < L.length
    · have c0 : wr.cell? ⟨b, off + k * 2, none⟩ = some (.int .i64 (L.getD k (0, 0)).1) := by
        have := Hc.out (2 * k) (by omega); rw [pcell_even, Nat.mul_comm 2 k] at this; exact (hbl.cell (p := ⟨b, off + k * 2, none⟩) hb).trans this
      have c1 : wr.cell? ⟨b, off + k * 2 + 1, none⟩ = some (.int .i64 (L.getD k (0, 0)).2) := by
        have := Hc.out (2 * k + 1) (by omega); rw [pcell_odd, Nat.mul_comm 2 k] at this; exact (hbl.cell (p := ⟨b, off + k * 2 + 1, none⟩) hb).trans this
      have hf : fair (L.getD k (0, 0)) := HL.out _ (by rw [List.getD_eq_getElem?_getD, List.getElem?_eq_getElem hlt]; exact List.getElem_mem hlt)
      have hts : L.take (k + 1) = L.take k ++ [L.getD k (0, 0)] := by rw [List.take_succ_eq_append_getElem hlt, List.getD_eq_getElem?_getD, List.getElem?_eq_getElem hlt]; rfl
      have hs1 := ssum_snoc (L.take k) (L.getD k (0, 0))
      have hq1 := qsum_snoc (L.take k) (L.getD k (0, 0))
      rw [← hts] at hs1 hq1
      obtain ⟨r1, r2, r3, r4⟩ := sums_range (L.take k) (fun p hp => HL.out p (List.mem_of_mem_take hp))
      have hlk : (L.take k).length = k := by simp; omega
      rw [hlk] at r2 r4
      obtain ⟨⟨x, y⟩, hxy⟩ : ∃ p, L.getD k (0, 0) = p := ⟨_, rfl⟩
      rw [hxy] at c0 c1 hf hs1 hq1
      simp only at c0 c1 hs1 hq1
      obtain ⟨s1, s2⟩ := share_range hf
      obtain ⟨s3, s4⟩ := sq_range s1 s2
      have Hs1 := Lib.hid hs1; have Hq1 := Lib.hid hq1
      clear hts hxy hlk hs1 hq1
      go_wp2_with fail
      refine (fshare_any x y _ hf).mono ?_
      rintro e w' ⟨rfl, rfl⟩
      go_wp2_with fail
      go_roundw
      case rel => exact ⟨k + 1, by omega, by rw [Hs1.out], by rw [Hq1.out], by go_num, hbl.al _⟩
      case measure => simp [intOf]; omega
    · obtain rfl : k = L.length := by omega
      rw [List.take_length]
      obtain ⟨r1, r2, r3, r4⟩ := sums_range L HL.out
      obtain ⟨s1, s2⟩ := share_range hga
      have p1 : 0 ≤ (L.length : Int) * share g a := Int.mul_nonneg (by omega) s1
      have p2 : (L.length : Int) * share g a ≤ 1000000 := by
        calc (L.length : Int) * share g a ≤ 1000 * 1000 := Int.mul_le_mul (by omega) s2 s1 (by omega)
          _ = 1000000 := by omega
      obtain ⟨m1, m2⟩ := far_m1 (S := ssum L) (P := (L.length : Int) * share g a) (by omega) (by omega) p1 p2
      obtain ⟨m3, m4, m5, m6, m7, m8, m9, m10⟩ := far_m2 (t := t) (n := (L.length : Int)) (Q := qsum L) (S := ssum L) ht0 ht1 (by omega) (by omega) r3 (by omega) r1 (by omega)
      have hfin : farB g a L t = (decide (0 < ssum L - L.length * share g a) && decide (t * t * (L.length * qsum L - ssum L * ssum L) < 100 * (ssum L - L.length * share g a) * (ssum L - L.length * share g a))) := by
        unfold farB
        have : L.isEmpty = false := by cases L with | nil => simp at hl0 | cons _ _ => rfl
        rw [this]; rfl
      have Hfin := Lib.hid hfin; clear hfin
      clear hlt
      have hcau := cauchy L
      obtain ⟨S, hS⟩ : ∃ x, ssum L = x := ⟨_, rfl⟩
      obtain ⟨Q, hQ⟩ : ∃ x, qsum L = x := ⟨_, rfl⟩
      obtain ⟨z, hz⟩ : ∃ x, share g a = x := ⟨_, rfl⟩
      have FS := Lib.hid (fun w => fshare_any g a w hga)
      rw [hS, hQ, hz] at Hfin
      rw [hz] at FS
      rw [hz] at p1 p2
      simp only [hS, hQ, hz] at m1 m2 m5 m6 m7 m8 m9 m10 hcau r1 r2 r3 r4 s1 s2
      rw [hS, hQ]
      have n0 : 0 ≤ (L.length : Int) := by omega
      have n1 : (L.length : Int) ≤ 1000 := by omega
      obtain ⟨y, hy⟩ : ∃ x, (L.length : Int) * z = x := ⟨_, rfl⟩
      rw [hy] at Hfin p1 p2 m1 m2
      obtain ⟨b', hb'⟩ : ∃ x, S - y = x := ⟨_, rfl⟩
      rw [hb'] at Hfin m1 m2
      obtain ⟨M, hM⟩ : ∃ x, (L.length : Int) * Q - S * S = x := ⟨_, rfl⟩
      rw [hM] at Hfin m9 m10
      obtain ⟨T, hT⟩ : ∃ x, t * t = x := ⟨_, rfl⟩
      rw [hT] at Hfin m9 m10 m3 m4
      have PnQ := Lib.hid (fun w => product_any (L.length : Int) Q w (by omega) (by omega) (by omega) (by omega))
      have PSS := Lib.hid (fun w => product_any S S w (by omega) (by omega) (by omega) (by omega))
      have Mi := fun w => minus_any ((L.length : Int) * Q) (S * S) w m7 hcau (by omega)
      rw [hM] at Mi
      replace Mi := Lib.hid Mi
      have M0 : 0 ≤ M := by omega
      have Ti := fun w => times_any M T w M0 m3 (by omega) (by rw [Int.mul_comm]; omega)
      have WC := fun w => wcmp_any (10 * b' * (10 * b')) (M * T) w
      have hwv : wv (M * T) = .agg #[.int .u64 (M * T / 18446744073709551616), .int .u64 (M * T % 18446744073709551616)] := rfl
      obtain ⟨P, hP⟩ : ∃ x, M * T / 18446744073709551616 = x := ⟨_, rfl⟩
      obtain ⟨R, hR⟩ : ∃ x, M * T % 18446744073709551616 = x := ⟨_, rfl⟩
      rw [hP, hR] at hwv
      rw [hwv] at Ti WC
      replace Ti := Lib.hid Ti
      replace WC := Lib.hid WC
      clear hwv hP hR
      have hb1 : b' ≤ 1000000 := by omega
      have hb2 : -1000000 ≤ b' := by omega
      have wS : wrap64 ((L.length : Int) * z) = y := by unfold wrap64; omega
      have wT : wrap64 (t * t) = T := by unfold wrap64; omega
      have wB : wrap64 (S - y) = b' := by unfold wrap64; omega
      clear hcau hM hy m5 m6 m7 m8 m9 m10 hS hQ hz
      have hny := Lib.hid hb'
      by_cases hB : 0 < b'
      · have fin2 : farB g a L t = decide (T * M < 100 * b' * b') := by rw [Hfin.out, decide_eq_true hB]; rfl
        replace fin2 := Lib.hid fin2
        clear Hfin
        go_wp2_with fail
        refine (FS.out _).mono ?_
        rintro e w' ⟨rfl, rfl⟩
        go_wp2_with fail
        refine (PnQ.out _).mono ?_
        rintro e w1 ⟨rfl, k1⟩
        go_wp2_with fail
        refine (PSS.out _).mono ?_
        rintro e w2 ⟨rfl, k2⟩
        go_wp2_with fail
        refine (Mi.out _).mono ?_
        rintro e w3 ⟨rfl, k3⟩
        go_wp2_with fail
        refine (Ti.out _).mono ?_
        rintro e w4 ⟨rfl, k4⟩
        go_upto_region 16 with fail
        have PB := fun w => product_ex (10 * b') (10 * b') w (by omega) (by omega) (by omega) (by omega)
        have w10 : IntKind.u64.wrap (IntKind.i64.wrap (10 * b')) = 10 * b' := by rw [IntKind.wrap_i64, IntKind.wrap_u64]; omega
        have hPB : ∀ w, Calls Try.prog 36 #[.int .u64 (IntKind.u64.wrap (IntKind.i64.wrap (10 * b'))), .int .u64 (IntKind.u64.wrap (IntKind.i64.wrap (10 * b')))] w fun e w' => e = .returned (wv (10 * b' * (10 * b'))) ∧ w' = w.alloc (.cells #[.int .u64 (10 * b' * (10 * b') / 18446744073709551616), .int .u64 (10 * b' * (10 * b') % 18446744073709551616)] 47) := by rw [w10]; exact PB
        replace PB := Lib.hid hPB
        clear hPB w10
        obtain ⟨w5, hw5⟩ : ∃ x, w4.alloc (.cells #[.int .u64 P, .int .u64 R] 47) = x := ⟨_, rfl⟩
        have hb5 : Bl w4 w5 := by rw [← hw5]; exact (Bl.rfl' _).al _
        have hq5 : w5.heap[w4.heap.size]? = some (.cells #[.int .u64 P, .int .u64 R] 47 (0, 0)) := by rw [← hw5]; exact heap_alloc_new _ _
        rw [hw5]
        have hBl : Bl w w5 := Bl.tr (Bl.tr (Bl.tr (Bl.tr (Bl.tr hbl k1) k2) k3) k4) hb5
        have hqd : w5.drew.heap[w4.heap.size]? = some (.cells #[.int .u64 P, .int .u64 R] 47 (0, 0)) := hq5
        have hqe := blk_bl' hqd ((Bl.rfl' _).al (.cells #[.int .u64 (10 * b' * (10 * b') / 18446744073709551616), .int .u64 (10 * b' * (10 * b') % 18446744073709551616)] 47))
        have hBe : Bl w (w5.drew.alloc (.cells #[.int .u64 (10 * b' * (10 * b') / 18446744073709551616), .int .u64 (10 * b' * (10 * b') % 18446744073709551616)] 47)) := (hBl.dr).al _
        generalize w4.heap.size = q at *
        have two : ∀ x : World, x.heap[q]? = some (.cells #[.int .u64 P, .int .u64 R] 47 (0, 0)) → x.cell? ⟨q, 0, none⟩ = some (.int .u64 P) ∧ x.cell? ⟨q, 1, none⟩ = some (.int .u64 R) := fun x h => ⟨cell_at h 0, cell_at h 1⟩
        replace two := Lib.hid two
        clear hw5 hb5 k1 k2 k3 k4 hbl hBl
        replace hqd := Lib.hid hqd
        replace hqe := Lib.hid hqe
        replace hBe := Lib.hid hBe
        replace hq5 := Lib.hid hq5
        refine wp_region_held_drew (S := fun w' => w'.cell? ⟨q, 0, none⟩ = some (.int .u64 P) ∧ w'.cell? ⟨q, 1, none⟩ = some (.int .u64 R)) (by kernel_rfl) ?_ (fun hHeld => ?_)
        · exact (two.out _ hqd.out)
        refine wpAnyH_take (i := 0) (v := ?v0_1) rfl (by kernel_rfl) (by kernel_rfl) (by kernel_rfl) (fun _ _ _ h => h) (Or.inl ⟨by rfl, ?y0_1⟩) hHeld ?r0_1
        case y0_1 => (intro w hSw; (try dsimp only at hSw); go_split_ands; go_simp; try with_reducible rfl)
        try simp only [List.getElem_toArray, List.getElem_cons_succ, List.getElem_cons_zero, Act.put, List.setIfInBounds_toArray, List.set_cons_zero, List.set_cons_succ]
        refine wpAnyH_take (i := 1) (v := ?v1_2) rfl (by kernel_rfl) (by kernel_rfl) (by kernel_rfl) (fun _ _ _ h => h) (Or.inl ⟨by rfl, ?y1_2⟩) hHeld ?r1_2
        case y1_2 => (intro w hSw; (try dsimp only at hSw); go_split_ands; go_simp; try with_reducible rfl)
        try simp only [List.getElem_toArray, List.getElem_cons_succ, List.getElem_cons_zero, Act.put, List.setIfInBounds_toArray, List.set_cons_zero, List.set_cons_succ]
        refine wpAnyH_take (i := 2) (v := ?v2_3) rfl (by kernel_rfl) (by kernel_rfl) (by kernel_rfl) (fun _ _ _ h => h) (Or.inl ⟨by rfl, ?y2_3⟩) hHeld ?r2_3
        case y2_3 => (intro w hSw; (try dsimp only at hSw); go_split_ands; go_simp; try with_reducible rfl)
        try simp only [List.getElem_toArray, List.getElem_cons_succ, List.getElem_cons_zero, Act.put, List.setIfInBounds_toArray, List.set_cons_zero, List.set_cons_succ]
        refine wpAnyH_take (i := 3) (v := ?v3_4) rfl (by kernel_rfl) (by kernel_rfl) (by kernel_rfl) (fun _ _ _ h => h) (Or.inl ⟨by rfl, ?y3_4⟩) hHeld ?r3_4
        case y3_4 => (intro w hSw; (try dsimp only at hSw); go_split_ands; go_simp; try with_reducible rfl)
        try simp only [List.getElem_toArray, List.getElem_cons_succ, List.getElem_cons_zero, Act.put, List.setIfInBounds_toArray, List.set_cons_zero, List.set_cons_succ]
        refine wpAnyH_take (i := 4) (v := ?v4_5) rfl (by kernel_rfl) (by kernel_rfl) (by kernel_rfl) (fun _ _ _ h => h) (Or.inl ⟨by rfl, ?y4_5⟩) hHeld ?r4_5
        case y4_5 => (intro w hSw; (try dsimp only at hSw); go_split_ands; go_simp; try with_reducible rfl)
        try simp only [List.getElem_toArray, List.getElem_cons_succ, List.getElem_cons_zero, Act.put, List.setIfInBounds_toArray, List.set_cons_zero, List.set_cons_succ]
        refine wpAnyH_take (i := 5) (v := ?v5_6) rfl (by kernel_rfl) (by kernel_rfl) (by kernel_rfl) (fun _ _ _ h => h) (Or.inl ⟨by rfl, ?y5_6⟩) hHeld ?r5_6
        case y5_6 => (intro w hSw; (try dsimp only at hSw); go_split_ands; go_simp; try with_reducible rfl)
        try simp only [List.getElem_toArray, List.getElem_cons_succ, List.getElem_cons_zero, Act.put, List.setIfInBounds_toArray, List.set_cons_zero, List.set_cons_succ]
        refine wpAnyH_take (i := 7) (v := ?v7_7) rfl (by kernel_rfl) (by kernel_rfl) (by kernel_rfl) (fun _ _ _ h => h) (Or.inl ⟨by rfl, ?y7_7⟩) hHeld ?r7_7
        case y7_7 => (intro w hSw; (try dsimp only at hSw); go_split_ands; go_simp; try with_reducible rfl)
        try simp only [List.getElem_toArray, List.getElem_cons_succ, List.getElem_cons_zero, Act.put, List.setIfInBounds_toArray, List.set_cons_zero, List.set_cons_succ]
        refine wpAnyH_ready (rs := [6]) (by kernel_rfl) (by simp) ?_
        refine AllReadyH.cons rfl (fun K hK => ?_) AllReadyH.nil
        have hHeld' := hHeld
        try dsimp only at hHeld'
        go_split_ands
        go_simp
        with_reducible refine (PB.out _).mono ?_
        rintro e w' ⟨rfl, rfl⟩
        refine hK.out _ _ ?_ (fun hHeld => ?_)
        · exact (two.out _ hqe.out)
        clear hK K
        try simp only [List.getElem_toArray, List.getElem_cons_succ, List.getElem_cons_zero, Act.put, List.setIfInBounds_toArray, List.set_cons_zero, List.set_cons_succ]
        refine wpAnyH_ready (rs := [8]) (by kernel_rfl) (by simp) ?_
        refine AllReadyH.cons rfl (fun K hK => ?_) AllReadyH.nil
        have hHeld' := hHeld
        try dsimp only at hHeld'
        go_split_ands
        go_simp
        with_reducible refine (WC.out _).mono ?_
        rintro e w6 ⟨rfl, k6⟩
        have hq6 := blk_bl' hqe.out k6
        have hB6 := Lib.hid (hBe.out.tr k6)
        clear k6
        refine hK.out _ _ ?_ (fun hHeld => ?_)
        · exact (two.out _ hq6)
        clear hK K
        try simp only [List.getElem_toArray, List.getElem_cons_succ, List.getElem_cons_zero, Act.put, List.setIfInBounds_toArray, List.set_cons_zero, List.set_cons_succ]
        refine wpAnyH_take (i := 9) (v := ?v9_8) rfl (by kernel_rfl) (by kernel_rfl) (by kernel_rfl) (fun _ _ _ h => h) (Or.inl ⟨by rfl, ?y9_8⟩) hHeld ?r9_8
        case y9_8 => (intro w hSw; (try dsimp only at hSw); go_split_ands; go_simp; try with_reducible rfl)
        try simp only [List.getElem_toArray, List.getElem_cons_succ, List.getElem_cons_zero, Act.put, List.setIfInBounds_toArray, List.set_cons_zero, List.set_cons_succ]
        refine wpAnyH_take (i := 10) (v := ?v10_9) rfl (by kernel_rfl) (by kernel_rfl) (by kernel_rfl) (fun _ _ _ h => h) (Or.inl ⟨by rfl, ?y10_9⟩) hHeld ?r10_9
        case y10_9 => (intro w hSw; (try dsimp only at hSw); go_split_ands; go_simp; try with_reducible rfl)
        try simp only [List.getElem_toArray, List.getElem_cons_succ, List.getElem_cons_zero, Act.put, List.setIfInBounds_toArray, List.set_cons_zero, List.set_cons_succ]
        refine wpAnyH_done (by kernel_rfl) ?_ _
        clear hq6
        go_wp2_with fail
        go_ret
        exact ⟨ret_bool (by
          rw [fin2.out]
          have e1 : 10 * b' * (10 * b') = 100 * b' * b' := by rw [Int.mul_assoc, Int.mul_left_comm b' 10 b', ← Int.mul_assoc 10 10, Int.mul_assoc 100]; rfl
          rw [e1, Int.mul_comm M T]
          rcases Int.lt_trichotomy (T * M) (100 * b' * b') with h | h | h
          · rw [cmpi_gt h, decide_eq_true (p := T * M < 100 * b' * b') h]; rfl
          · rw [cmpi_eq h.symm, decide_eq_false (p := T * M < 100 * b' * b') (by omega)]; rfl
          · rw [cmpi_lt h, decide_eq_false (p := T * M < 100 * b' * b') (by omega)]; rfl), hB6.out⟩
      · go_wp2_with fail
        refine (FS.out _).mono ?_
        rintro e w' ⟨rfl, rfl⟩
        go_wp2_with fail
        go_ret
        exact ⟨ret_bool (by rw [Hfin.out, decide_eq_false (by omega)]; rfl), hbl⟩

theorem far_any (g a t : Int) (L : List (Int × Int)) (v : Value) (w : World) (hga : fair (g, a)) (hL : ∀ p ∈ L, fair p) (hl : L.length ≤ 1000) (ht0 : 0 ≤ t) (ht1 : t ≤ 1000) (hv : PairsAt w v L) :
    Calls Try.prog 31 #[.int .i64 g, .int .i64 a, v, .int .i64 t] w fun e w' => e = .returned (.bool (farB g a L t)) ∧ Bl w w' := by
  by_cases h0 : L.length = 0
  · have hn : L = [] := List.eq_nil_of_length_eq_zero h0
    subst hn
    rcases hv with ⟨_, _, rfl, _, _⟩ | ⟨b, off, cap, rfl, hl, _, hlt, hc⟩
    · exact far_nil g a t _ _ w
    · exact far_nil g a t _ _ w
  · rcases hv with ⟨_, _, _, hz, _⟩ | ⟨b, off, cap, rfl, hcl, _, hlt, hc⟩
    · omega
    · exact far_some g a t L b off cap w hga hL (by omega) hl ht0 ht1 hcl hlt hc

theorem rfar_nil (g a t : Int) (b : Option Addr) (c : Nat) (w : World) (hga : fair (g, a)) (ht0 : 0 ≤ t) (ht1 : t ≤ 1000) :
    Calls Try.prog 32 #[.int .i64 g, .int .i64 a, .slice b 0 c, .int .i64 t] w fun e w' => e = .returned (.bool false) ∧ Bl w w' := by
  go_enter Try.func32, Try.ntmps32
  go_wp2_with fail
  go_loop [10, 11] (fun s i => s = I 0 ∧ i = I 0) (fun _ _ => 0)
  case atStart => exact ⟨rfl, rfl⟩
  case round =>
    obtain ⟨rfl, rfl⟩ := hrel
    go_wp2_with fail
    refine (rshare_any g a _ hga).mono ?_
    rintro e w' ⟨rfl, rfl⟩
    go_wp2_with fail
    go_loop [13, 14] (fun s i => s = I 0 ∧ i = I 0) (fun _ _ => 0)
    case atStart => exact ⟨rfl, rfl⟩
    case round =>
      obtain ⟨rfl, rfl⟩ := hrel
      go_wp2_with fail
      go_ret
      exact ⟨rfl, Bl.rfl' _⟩

set_option maxHeartbeats 1000000 in
theorem rfar_some (g a t : Int) (L : List (Int × Int)) (b off cap : Nat) (w : World) (hga : fair (g, a)) (hL : ∀ p ∈ L, fair p) (hl0 : 0 < L.length) (hl : L.length ≤ 1000) (ht0 : 0 ≤ t) (ht1 : t ≤ 1000) (hcap : L.length ≤ cap) (hb : b < w.heap.size)
    (hc : ∀ i, i < 2 * L.length → w.cell? ⟨b, off + i, none⟩ = some (pcell L i)) :
    Calls Try.prog 32 #[.int .i64 g, .int .i64 a, .slice (some ⟨b, off, none⟩) L.length cap, .int .i64 t] w fun e w' => e = .returned (.bool (farB g a L t)) ∧ Bl w w' := by
  have hne : ((L.length : Int) == 0) = false := beq_eq_false_iff_ne.2 (by omega)
  have HL := Lib.hid hL; clear hL
  have Hc := Lib.hid hc; clear hc
  go_enter Try.func32, Try.ntmps32
  go_wp2_with fail
  go_loopw [10, 11] (fun s i wr => ∃ k : Nat, k ≤ L.length ∧ s = I (ssum (L.take k)) ∧ i = I k ∧ Bl w wr) (fun _ i _ => L.length - (intOf i).toNat)
  case atStart => exact ⟨0, by omega, rfl, rfl, Bl.rfl' _⟩
  case round =>
    obtain ⟨k, hk, rfl, rfl, hbl⟩ := hrel
    by_cases hlt : k < L.length
    · have c0 : wr.cell? ⟨b, off + k * 2, none⟩ = some (.int .i64 (L.getD k (0, 0)).1) := by
        have := Hc.out (2 * k) (by omega); rw [pcell_even, Nat.mul_comm 2 k] at this; exact (hbl.cell (p := ⟨b, off + k * 2, none⟩) hb).trans this
      have c1 : wr.cell? ⟨b, off + k * 2 + 1, none⟩ = some (.int .i64 (L.getD k (0, 0)).2) := by
        have := Hc.out (2 * k + 1) (by omega); rw [pcell_odd, Nat.mul_comm 2 k] at this; exact (hbl.cell (p := ⟨b, off + k * 2 + 1, none⟩) hb).trans this
      have hf : fair (L.getD k (0, 0)) := HL.out _ (by rw [List.getD_eq_getElem?_getD, List.getElem?_eq_getElem hlt]; exact List.getElem_mem hlt)
      have hts : L.take (k + 1) = L.take k ++ [L.getD k (0, 0)] := by rw [List.take_succ_eq_append_getElem hlt, List.getD_eq_getElem?_getD, List.getElem?_eq_getElem hlt]; rfl
      have hs1 := ssum_snoc (L.take k) (L.getD k (0, 0))
      rw [← hts] at hs1
      obtain ⟨r1, r2, r3, r4⟩ := sums_range (L.take k) (fun p hp => HL.out p (List.mem_of_mem_take hp))
      have hlk : (L.take k).length = k := by simp; omega
      rw [hlk] at r2 r4
      obtain ⟨⟨x, y⟩, hxy⟩ : ∃ p, L.getD k (0, 0) = p := ⟨_, rfl⟩
      rw [hxy] at c0 c1 hf hs1
      simp only at c0 c1 hs1
      obtain ⟨s1, s2⟩ := share_range hf
      have Hs1 := Lib.hid hs1
      clear hts hxy hlk hs1
      have hlt' : (k : Int) < L.length := by omega
      go_wp2_with fail
      go_quiet ((go_at_call 33; exact Calls.quiet_of_same (rshare_q _ _ _ hf)))
      go_wp2_with fail
      go_roundw
      case rel => exact ⟨k + 1, by omega, by rw [Hs1.out], by go_num, hbl.drn _⟩
      case measure => simp [intOf]; omega
    · obtain rfl : k = L.length := by omega
      rw [List.take_length]
      obtain ⟨r1, r2, r3, r4⟩ := sums_range L HL.out
      obtain ⟨s1, s2⟩ := share_range hga
      obtain ⟨p1, p2⟩ := mul_in (a := (L.length : Int)) (b := share g a) (A := 1000) (B := 1000) (by omega) (by omega) s1 s2
      clear hlt
      go_wp2_with fail
      refine (rshare_any g a _ hga).mono ?_
      rintro e w' ⟨rfl, rfl⟩
      go_wp2_with fail
      go_loopw [13, 14] (fun s i wr => ∃ k : Nat, k ≤ L.length ∧ s = I (qsum (L.take k)) ∧ i = I k ∧ Bl w wr) (fun _ i _ => L.length - (intOf i).toNat)
      case atStart => exact ⟨0, by omega, rfl, rfl, hbl⟩
      case round =>
        obtain ⟨k, hk, rfl, rfl, hbl⟩ := hrel
        by_cases hlt : k < L.length
        · have c0 : wr.cell? ⟨b, off + k * 2, none⟩ = some (.int .i64 (L.getD k (0, 0)).1) := by
            have := Hc.out (2 * k) (by omega); rw [pcell_even, Nat.mul_comm 2 k] at this; exact (hbl.cell (p := ⟨b, off + k * 2, none⟩) hb).trans this
          have c1 : wr.cell? ⟨b, off + k * 2 + 1, none⟩ = some (.int .i64 (L.getD k (0, 0)).2) := by
            have := Hc.out (2 * k + 1) (by omega); rw [pcell_odd, Nat.mul_comm 2 k] at this; exact (hbl.cell (p := ⟨b, off + k * 2 + 1, none⟩) hb).trans this
          have hf : fair (L.getD k (0, 0)) := HL.out _ (by rw [List.getD_eq_getElem?_getD, List.getElem?_eq_getElem hlt]; exact List.getElem_mem hlt)
          have hts : L.take (k + 1) = L.take k ++ [L.getD k (0, 0)] := by rw [List.take_succ_eq_append_getElem hlt, List.getD_eq_getElem?_getD, List.getElem?_eq_getElem hlt]; rfl
          have hs1 := qsum_snoc (L.take k) (L.getD k (0, 0))
          rw [← hts] at hs1
          obtain ⟨r1, r2, r3, r4⟩ := sums_range (L.take k) (fun p hp => HL.out p (List.mem_of_mem_take hp))
          have hlk : (L.take k).length = k := by simp; omega
          rw [hlk] at r2 r4
          obtain ⟨⟨x, y⟩, hxy⟩ : ∃ p, L.getD k (0, 0) = p := ⟨_, rfl⟩
          rw [hxy] at c0 c1 hf hs1
          simp only at c0 c1 hs1
          obtain ⟨s1, s2⟩ := share_range hf
          obtain ⟨s3, s4⟩ := sq_range s1 s2
          have Hs1 := Lib.hid hs1
          clear hts hxy hlk hs1
          have hlt' : (k : Int) < L.length := by omega
          go_wp2_with fail
          go_quiet ((go_at_call 33; exact Calls.quiet_of_same (rshare_q _ _ _ hf)))
          go_wp2_with fail
          go_roundw
          case rel => exact ⟨k + 1, by omega, by rw [Hs1.out], by go_num, hbl.drn _⟩
          case measure => simp [intOf]; omega
        · obtain rfl : k = L.length := by omega
          rw [List.take_length]
          obtain ⟨m1, m2⟩ := far_m1 (S := ssum L) (P := (L.length : Int) * share g a) (by omega) (by omega) p1 p2
          obtain ⟨m3, m4, m5, m6, m7, m8, m9, m10⟩ := far_m2 (t := t) (n := (L.length : Int)) (Q := qsum L) (S := ssum L) ht0 ht1 (by omega) (by omega) r3 (by omega) r1 (by omega)
          have hfin : farB g a L t = (decide (0 < ssum L - L.length * share g a) && decide (t * t * (L.length * qsum L - ssum L * ssum L) < 100 * (ssum L - L.length * share g a) * (ssum L - L.length * share g a))) := by
            unfold farB
            have : L.isEmpty = false := by cases L with | nil => simp at hl0 | cons _ _ => rfl
            rw [this]; rfl
          obtain ⟨B, hBB⟩ : ∃ B, ssum L - (L.length : Int) * share g a = B := ⟨_, rfl⟩
          rw [hBB] at m1 m2 hfin
          rw [show 100 * B * B = B * B * 100 by rw [Int.mul_comm, Int.mul_comm 100, Int.mul_assoc]] at m1 m2 hfin
          have m1' : -1000000000000 ≤ B * B := by omega
          have m2' : B * B ≤ 1000000000000 := by omega
          have Hfin := Lib.hid hfin; clear hfin
          clear hlt
          by_cases hB : 0 < B
          · go_wp2_with fail
            go_ret
            exact ⟨ret_bool (by rw [Hfin.out, decide_eq_true hB]; rfl), hbl⟩
          · go_wp2_with fail
            go_ret
            exact ⟨ret_bool (by rw [Hfin.out, decide_eq_false (by omega)]; rfl), hbl⟩

theorem rfar_any (g a t : Int) (L : List (Int × Int)) (v : Value) (w : World) (hga : fair (g, a)) (hL : ∀ p ∈ L, fair p) (hl : L.length ≤ 1000) (ht0 : 0 ≤ t) (ht1 : t ≤ 1000) (hv : PairsAt w v L) :
    Calls Try.prog 32 #[.int .i64 g, .int .i64 a, v, .int .i64 t] w fun e w' => e = .returned (.bool (farB g a L t)) ∧ Bl w w' := by
  by_cases h0 : L.length = 0
  · have hn : L = [] := List.eq_nil_of_length_eq_zero h0
    subst hn
    rcases hv with ⟨_, _, rfl, _, _⟩ | ⟨b, off, cap, rfl, hl, _, hlt, hc⟩
    · exact rfar_nil g a t _ _ w hga ht0 ht1
    · exact rfar_nil g a t _ _ w hga ht0 ht1
  · rcases hv with ⟨_, _, _, hz, _⟩ | ⟨b, off, cap, rfl, hcl, _, hlt, hc⟩
    · omega
    · exact rfar_some g a t L b off cap w hga hL (by omega) hl ht0 ht1 hcl hlt hc
end Go.Proofs.Ytpobachhplbamaa
