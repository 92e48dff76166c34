/-
  FixParts is true for every input: Part, Root and Sum answer as the document's own. No condition.
-/
import Derived.Test.YtpobachhplbamaaWFixRoots
namespace Go.Proofs.Ytpobachhplbamaa.fixParts
open Go.ChangeShapes Go.WideShapes Go.ChangeAt Go.RowKit
set_option linter.unusedVariables false
set_option linter.unusedSimpArgs false

/-! ### Sum -/
def most : Int := 4611686018427387903
def sumc (z : List Int) : Int := z.foldl (fun s n => min (s + n) 4611686018427387903) 0
theorem sumc_snoc (z : List Int) (n : Int) : sumc (z ++ [n]) = min (sumc z + n) 4611686018427387903 := by simp [sumc]
def inMost (z : List Int) : Prop := ∀ n ∈ z, 0 ≤ n ∧ n ≤ 4611686018427387903
theorem sumc_range (z : List Int) (h : inMost z) : 0 ≤ sumc z ∧ sumc z ≤ 4611686018427387903 := by
  have : ∀ (z : List Int) (s : Int), inMost z → 0 ≤ s → s ≤ 4611686018427387903 → 0 ≤ z.foldl (fun s n => min (s + n) 4611686018427387903) s ∧ z.foldl (fun s n => min (s + n) 4611686018427387903) s ≤ 4611686018427387903 := by
    intro z
    induction z with
    | nil => intro s _ h0 h1; exact ⟨h0, h1⟩
    | cons n z ih =>
      intro s h h0 h1
      have hn := h n (List.mem_cons_self ..)
      exact ih (min (s + n) 4611686018427387903) (fun m hm => h m (List.mem_cons_of_mem _ hm)) (by omega) (by omega)
  exact this z 0 h (by omega) (by omega)

theorem fsum_any (z : List Int) (v : Value) (w : World) (hv : IntsAt w v z) (hz : inMost z) (hm : z.length ≤ maxLen) :
    Calls Try.prog 26 #[v] w fun e w' => e = .returned (.int .i64 (sumc z)) ∧ w = w' := by
  unfold maxLen at hm
  have HZ := Lib.hid hz; clear hz
  rcases hv with ⟨a, c, rfl, h0, _⟩ | ⟨b, off, cap, rfl, hcap, _, hlt, hc⟩
  · have hn : z = [] := List.eq_nil_of_length_eq_zero h0
    subst hn
    go_enter Try.func26, Try.ntmps26
    go_wp2_with fail
    go_loop [3, 8] (fun s i => s = I 0 ∧ i = I 0) (fun _ _ => 0)
    case atStart => exact ⟨rfl, rfl⟩
    case round =>
      obtain ⟨rfl, rfl⟩ := hrel
      go_wp2_with fail
      go_ret
      exact ⟨rfl, rfl⟩
  · have Hc := Lib.hid hc; clear hc
    go_enter Try.func26, Try.ntmps26
    go_wp2_with fail
    go_loop [3, 8] (fun s i => ∃ k : Nat, k ≤ z.length ∧ s = I (sumc (z.take k)) ∧ i = I k) (fun _ i => z.length - (intOf i).toNat)
    case atStart => exact ⟨0, by omega, rfl, rfl⟩
    case round =>
      obtain ⟨k, hk, rfl, rfl⟩ := hrel
      by_cases hlt2 : k < z.length
      · have c0 : w.cell? ⟨b, off + k, none⟩ = some (.int .i64 (z.getD k 0)) := Hc.out k hlt2
        have hzk := HZ.out (z.getD k 0) (getD_mem z k 0 hlt2)
        have hs := sumc_snoc (z.take k) (z.getD k 0)
        rw [← take_snoc z k 0 hlt2] at hs
        obtain ⟨r0, r1⟩ := sumc_range (z.take k) (fun m hm => HZ.out m (List.mem_of_mem_take hm))
        obtain ⟨x, hx⟩ : ∃ x, z.getD k 0 = x := ⟨_, rfl⟩
        rw [hx] at c0 hzk hs
        obtain ⟨x0, x1⟩ := hzk
        have Hs := Lib.hid hs
        clear hx hs
        have k1 : (k : Int) < z.length := by omega
        go_wp2_with fail
        go_round
        case rel => exact ⟨k + 1, by omega, by rw [Hs.out], by go_num⟩
        case measure => simp [intOf]; omega
      · obtain rfl : k = z.length := by omega
        rw [List.take_length]
        go_wp2_with fail
        go_ret
        exact ⟨rfl, rfl⟩

theorem rsum_any (z : List Int) (v : Value) (w : World) (hv : IntsAt w v z) (hz : inMost z) (hm : z.length ≤ maxLen) :
    Calls Try.prog 27 #[v] w fun e w' => e = .returned (.int .i64 (sumc z)) ∧ w = w' := by
  unfold maxLen at hm
  have HZ := Lib.hid hz; clear hz
  rcases hv with ⟨a, c, rfl, h0, _⟩ | ⟨b, off, cap, rfl, hcap, _, hlt, hc⟩
  · have hn : z = [] := List.eq_nil_of_length_eq_zero h0
    subst hn
    go_enter Try.func27, Try.ntmps27
    go_wp2_with fail
    go_loop [3, 4] (fun s i => s = I 0 ∧ i = I 0) (fun _ _ => 0)
    case atStart => exact ⟨rfl, rfl⟩
    case round =>
      obtain ⟨rfl, rfl⟩ := hrel
      go_wp2_with fail
      go_ret
      exact ⟨rfl, rfl⟩
  · have Hc := Lib.hid hc; clear hc
    go_enter Try.func27, Try.ntmps27
    go_wp2_with fail
    go_loop [3, 4] (fun s i => ∃ k : Nat, k ≤ z.length ∧ s = I (sumc (z.take k)) ∧ i = I k) (fun _ i => z.length - (intOf i).toNat)
    case atStart => exact ⟨0, by omega, rfl, rfl⟩
    case round =>
      obtain ⟨k, hk, rfl, rfl⟩ := hrel
      by_cases hlt2 : k < z.length
      · have c0 : w.cell? ⟨b, off + k, none⟩ = some (.int .i64 (z.getD k 0)) := Hc.out k hlt2
        have hzk := HZ.out (z.getD k 0) (getD_mem z k 0 hlt2)
        have hs := sumc_snoc (z.take k) (z.getD k 0)
        rw [← take_snoc z k 0 hlt2] at hs
        obtain ⟨r0, r1⟩ := sumc_range (z.take k) (fun m hm => HZ.out m (List.mem_of_mem_take hm))
        obtain ⟨x, hx⟩ : ∃ x, z.getD k 0 = x := ⟨_, rfl⟩
        rw [hx] at c0 hzk hs
        obtain ⟨x0, x1⟩ := hzk
        have Hs := Lib.hid hs
        clear hx hs
        have k1 : (k : Int) < z.length := by omega
        by_cases hb : 4611686018427387903 < sumc (z.take k) + x
        · go_wp2_with fail
          go_round
          case rel => exact ⟨k + 1, by omega, by rw [Hs.out]; congr 1; omega, by go_num⟩
          case measure => simp [intOf]; omega
        · go_wp2_with fail
          go_round
          case rel => exact ⟨k + 1, by omega, by rw [Hs.out]; congr 1; omega, by go_num⟩
          case measure => simp [intOf]; omega
      · obtain rfl : k = z.length := by omega
        rw [List.take_length]
        go_wp2_with fail
        go_ret
        exact ⟨rfl, rfl⟩

theorem rroot_int (n : Int) (w : World) (h0 : 0 ≤ n) (h1 : n ≤ 4611686018427387903) : Calls Try.prog 25 #[.int .i64 n] w (fixRoots.RootI n w) := by
  obtain ⟨n, rfl⟩ := Int.eq_ofNat_of_zero_le h0
  refine (rroot_any n w (by omega)).mono ?_
  rintro e w' ⟨r, rfl, rfl, h2, h3, h4⟩
  have e1 : (r : Int) * (r : Int) = ((r * r : Nat) : Int) := (Int.natCast_mul r r).symm
  have e2 : ((r : Int) + 1) * ((r : Int) + 1) = (((r + 1) * (r + 1) : Nat) : Int) := by push_cast; rfl
  exact ⟨r, rfl, rfl, by omega, by omega, by rw [e1]; omega, by rw [e2]; omega⟩

theorem rpart_int (n num den : Int) (w : World) (hn : 0 ≤ n) (hn1 : n ≤ 4611686018427387903) (hm : 0 ≤ num) (hm1 : num ≤ 4611686018427387903) (hd : 0 < den) (hd1 : den ≤ 4611686018427387904) :
    Calls Try.prog 23 #[.int .i64 n, .int .i64 num, .int .i64 den] w fun e w' => e = .returned (.int .i64 (part n num den)) ∧ w = w' := by
  obtain ⟨n, rfl⟩ := Int.eq_ofNat_of_zero_le hn
  exact rpart_any n num den w (by omega) hm hm1 hd hd1

theorem two_range {x y : Int} (k : Nat) (hk : k < 2) {lo hi : Int} (hx : lo ≤ x ∧ x ≤ hi) (hy : lo ≤ y ∧ y ≤ hi) : lo ≤ [x, y].getD k 0 ∧ [x, y].getD k 0 ≤ hi := by
  match k, hk with
  | 0, _ => exact hx
  | 1, _ => exact hy

theorem Try.infoI : (Try.prog.info? 3).map (fun i => (i.zero, i.size, i.bytes)) = some (some (.int .i64 0), 1, 8) := by kernel_rfl

def ivs (L : List Int) : List Value := L.map I
/-- What is made of the numbers of l, the first eight of them. -/
def somes (z : List Int) : List Int := (z.take 8).map fun n => around n 4611686018427387904
theorem somes_in (z : List Int) : inMost (somes z) := by
  intro n hn
  obtain ⟨m, _, rfl⟩ := List.mem_map.1 hn
  have h0 := around_lo m 4611686018427387904 (by omega)
  have h1 := around_hi m 4611686018427387904 (by omega)
  omega
theorem somes_len (z : List Int) : (somes z).length = min 8 z.length := by simp [somes]
theorem somes_getD (z : List Int) (k : Nat) (h : k < (somes z).length) : (somes z).getD k 0 = around (z.getD k 0) 4611686018427387904 := by
  rw [somes_len] at h
  simp [somes, List.getD_eq_getElem?_getD, List.getElem?_take, show k < 8 by omega, show k < z.length by omega]

set_option maxHeartbeats 4000000 in
theorem walk (w : World) (n : Int) (l0 : -9223372036854775808 ≤ n) (u0 : n ≤ 9223372036854775807) (num : Int) (l1 : -9223372036854775808 ≤ num) (u1 : num ≤ 9223372036854775807)
    (den : Int) (l2 : -9223372036854775808 ≤ den) (u2 : den ≤ 9223372036854775807) (v3 : Value) (z : List Int) (hv : IntsAt w v3 z) (hz : i64ok z) (hm : z.length ≤ maxLen) :
    Calls Try.prog 5 #[.int .i64 n, .int .i64 num, .int .i64 den, v3] w fun e w' => e = .returned (.bool true) ∧ Bl w w' := by
  have A0 := Lib.hid (fun w => some_any n w l0 u0)
  have A1 := Lib.hid (fun w => around_any n 1000 w l0 u0 (by omega) (by omega))
  have A2 := Lib.hid (fun w => some_any num w l1 u1)
  have A3 := Lib.hid (fun w => around_any num 1000 w l1 u1 (by omega) (by omega))
  have A4 := Lib.hid (fun w => above_any den w l2 u2)
  have A5 := Lib.hid (fun w => around_any den 1000 w l2 u2 (by omega) (by omega))
  have a0 := around_lo n 4611686018427387904 (by omega); have a1 := around_hi n 4611686018427387904 (by omega)
  have b0 := around_lo n 1000 (by omega); have b1 := around_hi n 1000 (by omega)
  have c0 := around_lo num 4611686018427387904 (by omega); have c1 := around_hi num 4611686018427387904 (by omega)
  have d0 := around_lo num 1000 (by omega); have d1 := around_hi num 1000 (by omega)
  have e0 := around_lo den 4611686018427387904 (by omega); have e1 := around_hi den 4611686018427387904 (by omega)
  have f0 := around_lo den 1000 (by omega); have f1 := around_hi den 1000 (by omega)
  obtain ⟨na, h1⟩ : ∃ a, around n 4611686018427387904 = a := ⟨_, rfl⟩
  obtain ⟨nb, h2⟩ : ∃ a, around n 1000 = a := ⟨_, rfl⟩
  obtain ⟨ka, h3⟩ : ∃ a, around num 4611686018427387904 = a := ⟨_, rfl⟩
  obtain ⟨kb, h4⟩ : ∃ a, around num 1000 = a := ⟨_, rfl⟩
  obtain ⟨x, h5⟩ : ∃ a, 1 + around den 4611686018427387904 = a := ⟨_, rfl⟩
  obtain ⟨y, h6⟩ : ∃ a, around den 1000 = a := ⟨_, rfl⟩
  have x0 : 1 ≤ x := by omega
  have x1 : x ≤ 4611686018427387904 := by omega
  clear e0 e1
  rw [h1] at A0 a0 a1; rw [h2] at A1 b0 b1; rw [h3] at A2 c0 c1; rw [h4] at A3 d0 d1; rw [h5] at A4; rw [h6] at A5 f0 f1
  clear h1 h2 h3 h4 h5 h6
  have hq0 : 0 ≤ x / 4611686018427387904 := by omega
  have hq1 : x / 4611686018427387904 ≤ 1 := by omega
  have hq2 : 1 ≤ x - x / 4611686018427387904 := by omega
  have hq3 : x - x / 4611686018427387904 ≤ 4611686018427387903 := by omega
  obtain ⟨g, hg⟩ : ∃ a, 1 + y = a := ⟨_, rfl⟩
  have g0 : 1 ≤ g := by omega
  have g1 : g ≤ 1000 := by omega
  obtain ⟨u, hu⟩ : ∃ a, x - x / 4611686018427387904 = a := ⟨_, rfl⟩
  rw [hu] at hq2 hq3
  go_enter Try.func5, Try.ntmps5
  go_wp2_with fail
  refine (A0.out _).mono ?_
  rintro e w' ⟨rfl, rfl⟩
  go_wp2_with fail
  refine (A1.out _).mono ?_
  rintro e w' ⟨rfl, rfl⟩
  go_wp2_with fail
  refine (A2.out _).mono ?_
  rintro e w' ⟨rfl, rfl⟩
  go_wp2_with fail
  refine (A3.out _).mono ?_
  rintro e w' ⟨rfl, rfl⟩
  go_wp2_with fail
  refine (A4.out _).mono ?_
  rintro e w' ⟨rfl, rfl⟩
  go_wp2_with fail
  refine (A4.out _).mono ?_
  rintro e w' ⟨rfl, rfl⟩
  go_wp2_with fail
  refine (A5.out _).mono ?_
  rintro e w' ⟨rfl, rfl⟩
  go_wp2_with fail
  obtain ⟨w1, hw1⟩ : ∃ w1, ((w.alloc (.cells #[I na, I nb] 3)).alloc (.cells #[I ka, I kb] 3)).alloc (.cells #[I u, I g] 3) = w1 := ⟨_, rfl⟩
  have i1 := ints_lit w 3 [na, nb] (by unfold maxLen; simp)
  have i2 := ints_lit (w.alloc (.cells #[I na, I nb] 3)) 3 [ka, kb] (by unfold maxLen; simp)
  have i3 := ints_lit ((w.alloc (.cells #[I na, I nb] 3)).alloc (.cells #[I ka, I kb] 3)) 3 [u, g] (by unfold maxLen; simp)
  have hb : Bl w w1 := by rw [← hw1]; exact (((Bl.rfl' _).al _).al _).al _
  have z1 : (w.alloc (.cells #[I na, I nb] 3)).heap.size = w.heap.size + 1 := by simp
  have z2 : ((w.alloc (.cells #[I na, I nb] 3)).alloc (.cells #[I ka, I kb] 3)).heap.size = w.heap.size + 1 + 1 := by simp
  rw [z1] at i2
  rw [z2] at i3
  have i1 : IntsAt w1 (.slice (some ⟨w.heap.size, 0, none⟩) 2 2) [na, nb] := by rw [← hw1]; exact Rd.below i1 (((Bl.rfl' _).al _).al _)
  have i2 : IntsAt w1 (.slice (some ⟨w.heap.size + 1, 0, none⟩) 2 2) [ka, kb] := by rw [← hw1]; exact Rd.below i2 ((Bl.rfl' _).al _)
  have i3 : IntsAt w1 (.slice (some ⟨w.heap.size + 1 + 1, 0, none⟩) 2 2) [u, g] := by rw [← hw1]; exact i3
  have J1 := Lib.hid (fun w' (h : Bl w1 w') => ints_cell (Rd.below i1 h))
  have J2 := Lib.hid (fun w' (h : Bl w1 w') => ints_cell (Rd.below i2 h))
  have J3 := Lib.hid (fun w' (h : Bl w1 w') => ints_cell (Rd.below i3 h))
  simp only [List.length_cons, List.length_nil, Nat.zero_add] at J1 J2 J3
  clear z1 z2
  clear i1 i2 i3
  have hv1 := Rd.below hv hb
  simp only [hw1]
  clear hw1
  go_loopw [12] (fun i wr => ∃ k : Nat, k ≤ 8 ∧ i = I k ∧ Bl w1 wr) (fun i _ => 8 - (intOf i).toNat)
  case atStart => exact ⟨0, by omega, rfl, Bl.rfl' _⟩
  case round =>
    obtain ⟨k, hk, rfl, hbl⟩ := hrel
    by_cases hlt : k < 8
    · have j1 := J1.out wr hbl (k % 2) (by omega)
      have j2 := J2.out wr hbl (k / 2 % 2) (by omega)
      have j3 := J3.out wr hbl (k / 4) (by omega)
      have ra := two_range (k % 2) (by omega) (lo := 0) (hi := 4611686018427387903) (x := na) (y := nb) (by omega) (by omega)
      have rb := two_range (k / 2 % 2) (by omega) (lo := 0) (hi := 4611686018427387903) (x := ka) (y := kb) (by omega) (by omega)
      have rc := two_range (k / 4) (by omega) (lo := 1) (hi := 4611686018427387903) (x := u) (y := g) (by omega) (by omega)
      obtain ⟨a, ha⟩ : ∃ a, [na, nb].getD (k % 2) 0 = a := ⟨_, rfl⟩
      obtain ⟨b, hb'⟩ : ∃ a, [ka, kb].getD (k / 2 % 2) 0 = a := ⟨_, rfl⟩
      obtain ⟨c, hc'⟩ : ∃ a, [u, g].getD (k / 4) 0 = a := ⟨_, rfl⟩
      rw [ha] at j1 ra; rw [hb'] at j2 rb; rw [hc'] at j3 rc
      clear ha hb' hc'
      have hr := part_range (n := a) (num := b) (den := c) ra.1 rb.1 (by omega)
      have eq1 : (part a b c != part a b c) = false := by simp
      go_wp2_with fail
      refine (part_any a b c _ (by omega) (by omega) (by omega) (by omega) (by omega) (by omega)).mono ?_
      rintro e w5 ⟨rfl, hb5⟩
      go_wp2_with fail
      refine (rpart_int a b c _ (by omega) (by omega) (by omega) (by omega) (by omega) (by omega)).mono ?_
      rintro e w' ⟨rfl, rfl⟩
      go_wp2_with fail
      refine (fixRoots.root_int a _ ra.1 ra.2).mono ?_
      rintro e w' ⟨r, rfl, rfl, r0, r1, r2, r3⟩
      have R2 := Lib.hid r2; have R3 := Lib.hid r3
      clear r2 r3
      go_wp2_with fail
      refine (rroot_int a _ ra.1 ra.2).mono ?_
      rintro e w' ⟨r', rfl, rfl, p0, p1, p2, p3⟩
      have hrr : r' = r := fixRoots.root_uniq p0 r0 p2 p3 R2.out R3.out
      subst hrr
      clear p2 p3
      have eq2 : (r' != r') = false := by simp
      go_wp2_with fail
      go_roundw
      case rel => exact ⟨k + 1, by omega, by go_num, hbl.tr hb5⟩
      case measure => simp [intOf]; omega
    · obtain rfl : k = 8 := by omega
      rw [show ((8 : Nat) : Int) = 8 from rfl]
      have hv2 := Rd.below hv1 hbl
      have hb2 : Bl w wr := hb.tr hbl
      clear hlt hk hv1 J1 J2 J3 hv hb hbl a0 a1 b0 b1 c0 c1 d0 d1 f0 f1 x0 x1 hq0 hq1 hq2 hq3 g0 g1
      obtain ⟨wo, rfl⟩ : ∃ wo : World, wo = wr := ⟨_, rfl⟩
      obtain ⟨i0, hi, hz0, hz1, hz2⟩ := info_parts Try.infoI
      have hln := somes_len z
      have hgd := somes_getD z
      have HI := Lib.hid (somes_in z)
      obtain ⟨L, hL⟩ : ∃ L, somes z = L := ⟨_, rfl⟩
      rw [hL] at hln hgd HI
      have HG := Lib.hid hgd; clear hgd hL
      have hl1 : L.length ≤ z.length := by omega
      have hl2 : L.length ≤ 8 := by omega
      have Hln := Lib.hid hln; clear hln
      have HZ := Lib.hid hz; clear hz
      unfold maxLen at hm
      have hvs : ∃ a cap, v3 = .slice a z.length cap := by
        rcases hv2 with ⟨a, c, rfl, h0, _⟩ | ⟨b, off, cap, rfl, _, _, _, _⟩
        · exact ⟨a, c, by rw [h0]⟩
        · exact ⟨_, cap, rfl⟩
      obtain ⟨va, vcap, rfl⟩ := hvs
      have HV := Lib.hid hv2; clear hv2
      go_wp2_with fail
      go_loopw [16, 17] (fun s i wq => ∃ k : Nat, k ≤ L.length ∧ wq.ownsRow wo.heap.size 3 1 s k (ivs (L.take k)) ∧ i = I k ∧ Bl wo wq) (fun _ i _ => z.length - (intOf i).toNat)
      case atStart => exact ⟨0, by omega, World.ownsRow_nil _ _ _ _, rfl, Bl.rfl' _⟩
      case round =>
        obtain ⟨k, hk, hown, rfl, hbl⟩ := hrel
        by_cases hlt : k < L.length
        · have h1 : k < z.length := by omega
          have hb3 := hb2.tr hbl
          rcases HV.out.below hbl with ⟨_, _, _, h0, _⟩ | ⟨b, off, cap, hsl, _, _, _, hc⟩
          · omega
          · simp only [Value.slice.injEq] at hsl
            obtain ⟨rfl, _, rfl⟩ := hsl
            have d1 : decide ((k : Int) < z.length) = true := by simp; omega
            have d2 : decide ((k : Int) < 8) = true := by simp; omega
            have c0 := hc k h1
            unfold icell at c0
            have hzk := HZ.out (z.getD k 0) (getD_mem z k 0 h1)
            have hfl : ivs (L.take (k + 1)) = ivs (L.take k) ++ [I (around (z.getD k 0) 4611686018427387904)] := by
              unfold ivs; rw [take_snoc L k 0 hlt, List.map_append, HG.out k hlt]; rfl
            have Hfl := Lib.hid hfl; clear hfl
            obtain ⟨x, hx⟩ : ∃ x, z.getD k 0 = x := ⟨_, rfl⟩
            rw [hx] at c0 hzk Hfl
            obtain ⟨x0, x1⟩ := hzk
            clear hx hc
            go_wp2_with fail
            refine (some_any x _ x0 x1).mono ?_
            rintro e w' ⟨rfl, rfl⟩
            obtain ⟨f, hf⟩ : ∃ f, around x 4611686018427387904 = f := ⟨_, rfl⟩
            rw [hf] at Hfl ⊢
            clear hf
            have hown := hown
            go_wp2_with (at_builtin; refine wpList_append_own _ rfl _ _ 24 rfl wo.heap.size 3 i0 (.int .i64 0) 1 8 Try.underlying24 hi hz0 hz1 hz2 rfl (by decide) _ k (ivs (L.take k)) rfl (hown.alloc _) ⟨_, 0, none⟩ 1 1 [I f] rfl rfl ?c1 ?c2 ?c3 ?c4 ?c5 ?_)
            case c1 =>
              intro j u hj
              match j with
              | 0 => simp at hj; subst hj; simp [Addr.add]
            case c2 => intro u hu; simp at hu; subst hu; rfl
            case c3 => unfold maxLen; omega
            case c4 => omega
            case c5 => have := hbl.size; simp; omega
            intro v' w7 hown' hgrow _
            have hb7 : Bl wo w7 := (hbl.al _).grown hgrow (fun k hk => (hown.lt k hk).1)
            rw [← Hfl.out] at hown'
            clear hgrow
            go_wp2_with fail
            go_roundw
            case rel => exact ⟨k + 1, by omega, hown', by go_num, hb7⟩
            case measure => simp [intOf]; omega
        · obtain rfl : k = L.length := by omega
          rw [List.take_length] at hown
          have hLA := Rd.of_own (g := icell L) hown (by
            intro i hi
            rw [Nat.mul_one] at hi
            unfold icell ivs
            rw [List.getElem?_map, List.getD_eq_getElem?_getD, List.getElem?_eq_getElem hi]; rfl)
          rw [Nat.mul_one] at hLA
          have hb3 := hb2.tr hbl
          have F1 := Lib.hid (fsum_any L _ _ hLA HI.out (by unfold maxLen; omega))
          have F2 := Lib.hid (rsum_any L _ _ hLA HI.out (by unfold maxLen; omega))
          have F3 := Lib.hid (fun w => fsum_any [] (.slice none 0 0) w (Or.inl ⟨none, 0, rfl, rfl, rfl⟩) (fun n hn => by cases hn) (by simp))
          have e0 : sumc [] = 0 := rfl
          have e1 : (sumc L == sumc L) = true := by simp
          clear hown hLA
          by_cases hz2 : L.length < z.length
          · have d1 : decide ((L.length : Int) < z.length) = true := by simp; omega
            have e20 : L.length = 8 := by have := Hln.out; omega
            have d2 : decide ((L.length : Int) < 8) = false := by simp; omega
            clear e20
            go_wp2_with fail
            refine F1.out.mono ?_
            rintro e w' ⟨rfl, rfl⟩
            go_wp2_with fail
            refine F2.out.mono ?_
            rintro e w' ⟨rfl, rfl⟩
            go_wp2_with fail
            refine (F3.out _).mono ?_
            rintro e w' ⟨rfl, rfl⟩
            go_wp2_with fail
            refine (lives01 _).mono ?_
            rintro e w' ⟨rfl, hb9⟩
            go_wp2_with fail
            go_ret
            exact ⟨rfl, hb3.tr hb9⟩
          · have d1 : decide ((L.length : Int) < z.length) = false := by simp; omega
            go_wp2_with fail
            refine F1.out.mono ?_
            rintro e w' ⟨rfl, rfl⟩
            go_wp2_with fail
            refine F2.out.mono ?_
            rintro e w' ⟨rfl, rfl⟩
            go_wp2_with fail
            refine (F3.out _).mono ?_
            rintro e w' ⟨rfl, rfl⟩
            go_wp2_with fail
            refine (lives01 _).mono ?_
            rintro e w' ⟨rfl, hb9⟩
            go_wp2_with fail
            go_ret
            exact ⟨rfl, hb3.tr hb9⟩
end Go.Proofs.Ytpobachhplbamaa.fixParts
