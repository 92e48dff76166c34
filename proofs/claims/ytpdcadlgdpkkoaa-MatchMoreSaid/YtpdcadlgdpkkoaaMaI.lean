/-
  Package match: matches made of numbers.
-/
import Derived.Test.YtpdcadlgdpkkoaaMaG
import Derived.Test.YtpdcadlgdpkkoaaHdI
import Derived.Test.YtpdcadlgdpkkoaaHdD0
import Derived.Test.YtpdcadlgdpkkoaaHdJ
import Derived.BigRegion
import Derived.Deep.CutRange
namespace Go.Proofs.Ytpdcadlgdpkkoaa.mat
open Go.ChangeShapes Go.WideShapes Go.ChangeAt Go.RowKit
open Go.Proofs.Ytpdcadlgdpkkoaa.heads
set_option linter.unusedVariables false
set_option linter.unusedSimpArgs false

def nm3 (j : Nat) : ByteArray := [(⟨#[97]⟩ : ByteArray), ⟨#[98]⟩, ⟨#[122]⟩].getD j ⟨#[]⟩
def vl3 (j : Nat) : ByteArray := [(⟨#[]⟩ : ByteArray), ⟨#[49]⟩, ⟨#[50]⟩].getD j ⟨#[]⟩
abbrev oN3 : Obj := .cells #[S ⟨#[97]⟩, S ⟨#[98]⟩, S ⟨#[122]⟩] 9
abbrev oV3 : Obj := .cells #[S ⟨#[]⟩, S ⟨#[49]⟩, S ⟨#[50]⟩] 9
theorem cellN3 {v : World} {b : Nat} (hb : v.heap[b]? = some oN3) (j : Nat) (hj : j < 3) : v.cell? ⟨b, j, none⟩ = some (S (nm3 j)) := by
  rw [cell_at hb j]
  rcases j with _ | _ | _ | j
  all_goals first | rfl | omega
theorem cellV3 {v : World} {b : Nat} (hb : v.heap[b]? = some oV3) (j : Nat) (hj : j < 3) : v.cell? ⟨b, j, none⟩ = some (S (vl3 j)) := by
  rw [cell_at hb j]
  rcases j with _ | _ | _ | j
  all_goals first | rfl | omega
def hd3 (i x : Int) : Hd := ⟨nm3 (i * x / 3 % 3).toNat, vl3 (x / 9 % 3).toNat⟩
def mhF (z : List Int) : Nat → List Hd
  | 0 => []
  | 1 => []
  | i + 2 => if around (z.getD (i + 1) 0) 1000 % 3 = 0 ∧ (getH (mhF z (i + 1)) (hd3 ((i + 1 : Nat) : Int) (around (z.getD (i + 1) 0) 1000)).n).isSome = false then mhF z (i + 1) ++ [hd3 ((i + 1 : Nat) : Int) (around (z.getD (i + 1) 0) 1000)] else mhF z (i + 1)
theorem mhF_len (z : List Int) : ∀ i, (mhF z (i + 1)).length ≤ i
  | 0 => by simp [mhF]
  | i + 1 => by
    have := mhF_len z i
    rw [mhF]
    split
    · rw [List.length_append, List.length_singleton]; omega
    · omega
theorem mhF_step (z : List Int) (i : Nat) (h : 1 ≤ i) : mhF z (i + 1) = if around (z.getD i 0) 1000 % 3 = 0 ∧ (getH (mhF z i) (hd3 (i : Int) (around (z.getD i 0) 1000)).n).isSome = false then mhF z i ++ [hd3 (i : Int) (around (z.getD i 0) 1000)] else mhF z i := by
  obtain ⟨j, rfl⟩ : ∃ j, i = j + 1 := ⟨i - 1, by omega⟩
  rfl
theorem mhF_le (z : List Int) (i : Nat) : (mhF z i).length ≤ i := by
  rcases i with _ | i
  · simp [mhF]
  · have := mhF_len z i; omega
theorem set3 {w : World} {y : Nat} {T : TypeId} {a b c : Value} (h : w.heap[y]? = some (.cells #[a, b, c] T (0, 0))) (a' b' c' : Value) :
    (((w.setCell ⟨y, 0, none⟩ a').setCell ⟨y, 1, none⟩ b').setCell ⟨y, 2, none⟩ c').heap[y]? = some (.cells #[a', b', c'] T (0, 0)) := by
  have h1 := set_at 0 a' h
  have h2 := set_at 1 b' h1
  have h3 := set_at 2 c' h2
  simpa using h3
theorem set3_gb (w : World) (y : Nat) (a' b' c' : Value) :
    w.grownBy (((w.setCell ⟨y, 0, none⟩ a').setCell ⟨y, 1, none⟩ b').setCell ⟨y, 2, none⟩ c') (some y) :=
  gby_tr (gby_tr (gby_set w y 0 _) (gby_set _ y 1 _)) (gby_set _ y 2 _)
def n0F (z : List Int) : Nat := if 0 < z.length then (around (z.getD 0 0) 1000000).toNat else 0
def mpF (z : List Int) : ByteArray := pathN (around ((n0F z / 3 : Nat) : Int) 1000000).toNat
def mxF (z : List Int) : Bool := decide (n0F z % 3 = 1)
def mhA (z : List Int) : List Hd := mhF z (max 1 (min z.length 3))
theorem mhA_len (z : List Int) : (mhA z).length ≤ 2 := by
  unfold mhA
  obtain ⟨i, hi⟩ : ∃ i, max 1 (min z.length 3) = i + 1 := ⟨max 1 (min z.length 3) - 1, by omega⟩
  rw [hi]
  have := mhF_len z i
  omega
set_option maxRecDepth 20000 in
set_option maxHeartbeats 4000000 in
theorem match_mk (z0 : List Int) (v : Value) (w : World) (hv : IntsAt w v z0) (hz : i64ok z0) (hm : z0.length ≤ maxLen) :
    Calls Try.prog 16 #[v] w fun e w' => ∃ u, e = .returned (mV (mpF z0) (mxF z0) u) ∧ OwnB hB 2 42 w' w.heap.size u (mhA z0) ∧ Bl w w' := by
  obtain ⟨iu, hiu, zu0, zu1, zu2⟩ := info_parts infoH
  obtain ⟨a, cap, rfl, RD⟩ := rd_any hv
  unfold maxLen at hm
  have hmp : mpF z0 = pathO ((n0F z0 / 3 : Nat) : Int) := rfl
  have hmx : mxF z0 = decide (n0F z0 % 3 = 1) := rfl
  have hn0 : n0F z0 = if 0 < z0.length then (around (z0.getD 0 0) 1000000).toNat else 0 := rfl
  have hma : mhA z0 = mhF z0 (max 1 (min z0.length 3)) := rfl
  rw [hmp, hmx, hma]
  have hn1 : n0F z0 ≤ 1000000 := by
    rw [hn0]
    split
    · have := around_hi (z0.getD 0 0) 1000000 (by omega); omega
    · omega
  obtain ⟨n, hn⟩ : ∃ z_, (n0F z0) = z_ := ⟨_, rfl⟩
  rw [hn] at hn0 hn1
  simp only [hn]
  obtain ⟨N, hN⟩ : ∃ z_, (z0.length) = z_ := ⟨_, rfl⟩
  rw [hN] at RD hm hn0
  have hzz : ∀ k, k < N → -9223372036854775808 ≤ z0.getD k 0 ∧ z0.getD k 0 ≤ 9223372036854775807 := fun k hk => hz _ (getD_mem z0 k 0 (by omega))
  simp only [hN]
  have PO := fun w => pathof_any ((n / 3 : Nat) : Int) w (by omega) (by omega)
  obtain ⟨p, hp⟩ : ∃ z_, (pathO ((n / 3 : Nat) : Int)) = z_ := ⟨_, rfl⟩
  simp only [hp] at PO ⊢
  have tn : ((n : Nat) : Int).tdiv 3 = ((n / 3 : Nat) : Int) := by rw [Int.tdiv_eq_ediv_of_nonneg (by omega)]; omega
  have tm : ((n : Nat) : Int).tmod 3 = ((n % 3 : Nat) : Int) := by rw [Int.tmod_eq_emod_of_nonneg (by omega)]; omega
  have te : (((n % 3 : Nat) : Int) == 1) = decide (n % 3 = 1) := by
    by_cases h : n % 3 = 1
    · rw [decide_eq_true h, beq_iff_eq]; omega
    · rw [decide_eq_false h, beq_eq_false_iff_ne]; omega
  obtain ⟨q, hq⟩ : ∃ z_, (((n / 3 : Nat) : Int)) = z_ := ⟨_, rfl⟩
  rw [hq] at tn
  simp only [hq] at PO
  have k0 : 0 ≤ q := by omega
  have k1 : q ≤ 1000000 := by omega
  obtain ⟨r, hr⟩ : ∃ z_, (((n % 3 : Nat) : Int)) = z_ := ⟨_, rfl⟩
  rw [hr] at tm te
  obtain ⟨b, hb⟩ : ∃ z_, (decide (n % 3 = 1)) = z_ := ⟨_, rfl⟩
  rw [hb] at te
  simp only [hb]
  obtain ⟨x, hx⟩ : ∃ x : Int, (n : Int) = x := ⟨_, rfl⟩
  rw [hx] at tn tm
  have AR := Lib.hid (fun n m w h1 h2 h3 h4 => around_any n m w h1 h2 h3 h4)
  have g0 := heap_alloc_new w (oM ⟨#[]⟩ false nilH)
  have q0 := (Bl.rfl' w).al (oM ⟨#[]⟩ false nilH)
  obtain ⟨w1, h1⟩ : ∃ X, w.alloc (.cells #[.string ⟨#[]⟩, .bool false, .slice none 0 0] 29) = X := ⟨_, rfl⟩
  have h1' : w.alloc (oM ⟨#[]⟩ false nilH) = w1 := h1
  rw [h1'] at g0 q0
  obtain ⟨p0, e0⟩ : ∃ X, w.heap.size = X := ⟨_, rfl⟩
  rw [e0] at g0
  subst e0
  clear hq hr hb hmp hmx hma hv hz h1' hN hn hp
  obtain ⟨FL, hfin⟩ : ∃ X, mhF z0 (max 1 (min N 3)) = X := ⟨_, rfl⟩
  rw [hfin]
  replace hfin := hfin.symm
  replace PO := Lib.hid PO
  replace RD := Lib.hid RD
  replace hzz := Lib.hid hzz
  replace g0 := Lib.hid g0
  replace q0 := Lib.hid q0
  replace hx := Lib.hid hx
  replace hn0 := Lib.hid hn0
  go_enter Try.func16, Try.ntmps16
  go_upto_if 12 with fail
  go_cut [3] from 10 to 16 (fun v wx => v = I x ∧ wx = w1)
  case first =>
    by_cases hN0 : 0 < N
    · obtain ⟨b', off', rfl, c0⟩ := RD.out w1 q0.out 0 hN0
      unfold icell at c0
      rw [Nat.add_zero] at c0
      have hy := hzz.out 0 hN0
      have hn2 := hn0.out
      rw [if_pos hN0] at hn2
      obtain ⟨y, hyy⟩ : ∃ z_, (z0.getD 0 0) = z_ := ⟨_, rfl⟩
      rw [hyy] at c0 hy hn2
      have A1 := AR.out y 1000000 w1 hy.1 hy.2 (by omega) (by omega)
      have f0 := around_lo y 1000000 (by omega)
      have hxy : around y 1000000 = x := by rw [← hx.out]; omega
      rw [hxy] at A1
      have d1 : decide ((N : Int) > 0) = true := decide_eq_true (by omega)
      clear hyy hy hn2 f0 hxy
      replace A1 := Lib.hid A1
      go_wp2_with fail
      with_reducible refine (A1.out).mono ?_
      rintro e w' ⟨rfl, rfl⟩
      go_wp2_with fail
      go_meet
      case rel => exact ⟨rfl, rfl⟩
    · have hn2 := hn0.out
      rw [if_neg hN0] at hn2
      have hx0 : x = 0 := by rw [← hx.out]; omega
      have d1 : decide ((N : Int) > 0) = false := decide_eq_false (by omega)
      clear hn2
      replace hx0 := Lib.hid hx0
      go_wp2_with fail
      go_meet
      case rel => exact ⟨by rw [hx0.out], rfl⟩
  case rest =>
    obtain ⟨rfl, rfl⟩ := hcut
    have hx0 : 0 ≤ x := by rw [← hx.out]; omega
    have hx1 : x ≤ 1000000 := by rw [← hx.out]; omega
    go_wp2_with fail
    with_reducible refine (PO.out _).mono ?_
    rintro e w2 ⟨rfl, hn⟩
    have q1 := q0.out.tr hn
    have g1 := blk_bl g0.out hn
    clear hn
    replace q1 := Lib.hid q1
    replace g1 := Lib.hid g1
    go_upto_region 6 with fail
    have g2 := heap_alloc_new w2 (oM p b nilH)
    have k2 := (Bl.rfl' w2).al (oM p b nilH)
    have g3 := blk_bl g1.out k2
    have hge : w.heap.size < w2.heap.size := by
      have h2 := lt_of_block g1.out
      exact h2
    obtain ⟨pm, hpm⟩ : ∃ X, w2.heap.size = X := ⟨_, rfl⟩
    rw [hpm] at g2 hge ⊢
    obtain ⟨w3, h3⟩ : ∃ X, w2.alloc (.cells #[.string p, .bool b, .slice none 0 0] 29) = X := ⟨_, rfl⟩
    have h3' : w2.alloc (oM p b nilH) = w3 := h3
    rw [h3'] at g2 k2 g3
    rw [h3]
    have k3 := q1.out.tr k2
    obtain ⟨r0, hr0⟩ : ∃ X, w.heap.size = X := ⟨_, rfl⟩
    have hrw := hr0
    rw [hr0] at g3 hge ⊢
    have hlt3 := lt_of_block g2
    clear h1 h3 h3' hpm q0 q1 g0 g1 k2 k0 k1 PO hx0 hx1 hx hn0 tn tm te
    replace g2 := Lib.hid g2
    replace g3 := Lib.hid g3
    replace k3 := Lib.hid k3
    replace hr0 := Lib.hid hr0
    go_loopw [5] (fun iv wr => ∃ (i : Nat) (u : Value), iv = I i ∧ 1 ≤ i ∧ i ≤ max 1 (min N 3) ∧ wr.heap[pm]? = some (oM p b u) ∧ OwnB hB 2 42 wr (pm + 1) u (mhF z0 i) ∧ wr.heap[r0]? = some (oM ⟨#[]⟩ false nilH) ∧ Bl w wr) (fun iv _ => 3 - (intOf iv).toNat)
    case atStart => exact ⟨1, nilH, rfl, by omega, by omega, g2.out, OwnB.nil _ _ _, g3.out, k3.out⟩
    case round =>
      obtain ⟨i, u, rfl, hi1, hiM, hM, hO, hR, hb⟩ := hrel
      have hln := mhF_le z0 i
      have hst := mhF_step z0 i hi1
      have hown := hO
      have hHd := heads_own hO
      obtain ⟨ra, rg, rcap, rfl, hrg, hrc, hrc2, hRR⟩ := OwnB.row hO (by decide)
      clear hRR hO g2 g3 k3 hlt3
      have hlt3 := lt_of_block hM
      by_cases hlt : i < N ∧ i < 3
      · obtain ⟨hlN, hl3⟩ := hlt
        have d1 : decide ((i : Int) < (N : Int)) = true := decide_eq_true (by omega)
        have d2 : decide ((i : Int) < 3) = true := decide_eq_true (by omega)
        have d3 : decide (i < N) = true := decide_eq_true hlN
        have d4 : decide (i < 3) = true := decide_eq_true hl3
        have wi : IntKind.i64.wrap ((i : Int) + 1) = ((i + 1 : Nat) : Int) := by rw [IntKind.wrap_i64]; omega
        obtain ⟨b', off', rfl, c0⟩ := RD.out wr hb i hlN
        unfold icell at c0
        have hy := hzz.out i hlN
        obtain ⟨y, hyy⟩ : ∃ z_, (z0.getD i 0) = z_ := ⟨_, rfl⟩
        rw [hyy] at c0 hy hst
        have A1 := AR.out y 1000 wr hy.1 hy.2 (by omega) (by omega)
        have f0 := around_lo y 1000 (by omega)
        have f1 := around_hi y 1000 (by omega)
        obtain ⟨x', hx'⟩ : ∃ z_, (around y 1000) = z_ := ⟨_, rfl⟩
        rw [hx'] at A1 f0 f1 hst
        have tm : x'.tmod 3 = x' % 3 := Int.tmod_eq_emod_of_nonneg f0
        clear hyy hy hx'
        by_cases h3 : x' % 3 = 0
        · have e3 : ((x' % 3) == 0) = true := beq_iff_eq.2 h3
          obtain ⟨m, hmm⟩ : ∃ m : Int, (i : Int) * x' = m := ⟨_, rfl⟩
          have hm0 : 0 ≤ m ∧ m ≤ 2000 := by
            rcases (by omega : i = 1 ∨ i = 2) with rfl | rfl <;> omega
          have wm : IntKind.i64.wrap ((i : Int) * x') = m := by rw [hmm, IntKind.wrap_i64]; omega
          have hmul : (i : Int) * x' = m := hmm
          have hh3 : hd3 (i : Int) x' = ⟨nm3 (m / 3 % 3).toNat, vl3 (x' / 9 % 3).toNat⟩ := by rw [← hmm]; rfl
          obtain ⟨y1, hy1⟩ : ∃ y, m / 3 = y := ⟨_, rfl⟩
          obtain ⟨y2, hy2⟩ : ∃ y, x' / 9 = y := ⟨_, rfl⟩
          rw [hy1, hy2] at hh3
          rw [hh3] at hst
          have t1 : m.tdiv 3 = y1 := by rw [Int.tdiv_eq_ediv_of_nonneg hm0.1]; exact hy1
          have t2 : y1.tmod 3 = y1 % 3 := Int.tmod_eq_emod_of_nonneg (by omega)
          have t3 : x'.tdiv 9 = y2 := by rw [Int.tdiv_eq_ediv_of_nonneg f0]; exact hy2
          have t4 : y2.tmod 3 = y2 % 3 := Int.tmod_eq_emod_of_nonneg (by omega)
          have u0 : 0 ≤ y1 := by omega
          have u1 : y1 ≤ 2000 := by omega
          have u2 : 0 ≤ y2 := by omega
          have u3 : y2 ≤ 2000 := by omega
          have v0 : 0 ≤ m := hm0.1
          have v1 : m ≤ 2000 := hm0.2
          have v2 : 0 ≤ y1 % 3 := by omega
          have v3 : y1 % 3 < 3 := by omega
          have v4 : 0 ≤ y2 % 3 := by omega
          have v5 : y2 % 3 < 3 := by omega
          have L1 : ((wr.alloc oN3).drew).cell? ⟨wr.heap.size, (y1 % 3).toNat, none⟩ = some (S (nm3 (y1 % 3).toNat)) := cellN3 (alls_at wr [] oN3 []) (y1 % 3).toNat (by omega)
          have L2 : (((wr.alloc oZ).alloc oN3).drew).cell? ⟨wr.heap.size + 1, (y1 % 3).toNat, none⟩ = some (S (nm3 (y1 % 3).toNat)) := cellN3 (alls_at wr [oZ] oN3 []) (y1 % 3).toNat (by omega)
          have L3 : (((wr.alloc oN3).alloc oZ).drew).cell? ⟨wr.heap.size, (y1 % 3).toNat, none⟩ = some (S (nm3 (y1 % 3).toNat)) := cellN3 (alls_at wr [] oN3 [oZ]) (y1 % 3).toNat (by omega)
          have L4 : (((wr.alloc oN3).alloc oV3).drew).cell? ⟨wr.heap.size, (y1 % 3).toNat, none⟩ = some (S (nm3 (y1 % 3).toNat)) := cellN3 (alls_at wr [] oN3 [oV3]) (y1 % 3).toNat (by omega)
          have L5 : (((wr.alloc oV3).alloc oN3).drew).cell? ⟨wr.heap.size + 1, (y1 % 3).toNat, none⟩ = some (S (nm3 (y1 % 3).toNat)) := cellN3 (alls_at wr [oV3] oN3 []) (y1 % 3).toNat (by omega)
          have L6 : ((((wr.alloc oZ).alloc oN3).alloc oV3).drew).cell? ⟨wr.heap.size + 1, (y1 % 3).toNat, none⟩ = some (S (nm3 (y1 % 3).toNat)) := cellN3 (alls_at wr [oZ] oN3 [oV3]) (y1 % 3).toNat (by omega)
          have L7 : ((((wr.alloc oZ).alloc oV3).alloc oN3).drew).cell? ⟨wr.heap.size + 1 + 1, (y1 % 3).toNat, none⟩ = some (S (nm3 (y1 % 3).toNat)) := cellN3 (alls_at wr [oZ, oV3] oN3 []) (y1 % 3).toNat (by omega)
          have L8 : ((((wr.alloc oN3).alloc oZ).alloc oV3).drew).cell? ⟨wr.heap.size, (y1 % 3).toNat, none⟩ = some (S (nm3 (y1 % 3).toNat)) := cellN3 (alls_at wr [] oN3 [oZ, oV3]) (y1 % 3).toNat (by omega)
          have L9 : ((((wr.alloc oN3).alloc oV3).alloc oZ).drew).cell? ⟨wr.heap.size, (y1 % 3).toNat, none⟩ = some (S (nm3 (y1 % 3).toNat)) := cellN3 (alls_at wr [] oN3 [oV3, oZ]) (y1 % 3).toNat (by omega)
          have L10 : ((((wr.alloc oV3).alloc oZ).alloc oN3).drew).cell? ⟨wr.heap.size + 1 + 1, (y1 % 3).toNat, none⟩ = some (S (nm3 (y1 % 3).toNat)) := cellN3 (alls_at wr [oV3, oZ] oN3 []) (y1 % 3).toNat (by omega)
          have L11 : ((((wr.alloc oV3).alloc oN3).alloc oZ).drew).cell? ⟨wr.heap.size + 1, (y1 % 3).toNat, none⟩ = some (S (nm3 (y1 % 3).toNat)) := cellN3 (alls_at wr [oV3] oN3 [oZ]) (y1 % 3).toNat (by omega)
          have L12 : ((wr.alloc oV3).drew).cell? ⟨wr.heap.size, (y2 % 3).toNat, none⟩ = some (S (vl3 (y2 % 3).toNat)) := cellV3 (alls_at wr [] oV3 []) (y2 % 3).toNat (by omega)
          have L13 : (((wr.alloc oZ).alloc oV3).drew).cell? ⟨wr.heap.size + 1, (y2 % 3).toNat, none⟩ = some (S (vl3 (y2 % 3).toNat)) := cellV3 (alls_at wr [oZ] oV3 []) (y2 % 3).toNat (by omega)
          have L14 : (((wr.alloc oN3).alloc oV3).drew).cell? ⟨wr.heap.size + 1, (y2 % 3).toNat, none⟩ = some (S (vl3 (y2 % 3).toNat)) := cellV3 (alls_at wr [oN3] oV3 []) (y2 % 3).toNat (by omega)
          have L15 : (((wr.alloc oV3).alloc oZ).drew).cell? ⟨wr.heap.size, (y2 % 3).toNat, none⟩ = some (S (vl3 (y2 % 3).toNat)) := cellV3 (alls_at wr [] oV3 [oZ]) (y2 % 3).toNat (by omega)
          have L16 : (((wr.alloc oV3).alloc oN3).drew).cell? ⟨wr.heap.size, (y2 % 3).toNat, none⟩ = some (S (vl3 (y2 % 3).toNat)) := cellV3 (alls_at wr [] oV3 [oN3]) (y2 % 3).toNat (by omega)
          have L17 : ((((wr.alloc oZ).alloc oN3).alloc oV3).drew).cell? ⟨wr.heap.size + 1 + 1, (y2 % 3).toNat, none⟩ = some (S (vl3 (y2 % 3).toNat)) := cellV3 (alls_at wr [oZ, oN3] oV3 []) (y2 % 3).toNat (by omega)
          have L18 : ((((wr.alloc oZ).alloc oV3).alloc oN3).drew).cell? ⟨wr.heap.size + 1, (y2 % 3).toNat, none⟩ = some (S (vl3 (y2 % 3).toNat)) := cellV3 (alls_at wr [oZ] oV3 [oN3]) (y2 % 3).toNat (by omega)
          have L19 : ((((wr.alloc oN3).alloc oZ).alloc oV3).drew).cell? ⟨wr.heap.size + 1 + 1, (y2 % 3).toNat, none⟩ = some (S (vl3 (y2 % 3).toNat)) := cellV3 (alls_at wr [oN3, oZ] oV3 []) (y2 % 3).toNat (by omega)
          have L20 : ((((wr.alloc oN3).alloc oV3).alloc oZ).drew).cell? ⟨wr.heap.size + 1, (y2 % 3).toNat, none⟩ = some (S (vl3 (y2 % 3).toNat)) := cellV3 (alls_at wr [oN3] oV3 [oZ]) (y2 % 3).toNat (by omega)
          have L21 : ((((wr.alloc oV3).alloc oZ).alloc oN3).drew).cell? ⟨wr.heap.size, (y2 % 3).toNat, none⟩ = some (S (vl3 (y2 % 3).toNat)) := cellV3 (alls_at wr [] oV3 [oZ, oN3]) (y2 % 3).toNat (by omega)
          have L22 : ((((wr.alloc oV3).alloc oN3).alloc oZ).drew).cell? ⟨wr.heap.size, (y2 % 3).toNat, none⟩ = some (S (vl3 (y2 % 3).toNat)) := cellV3 (alls_at wr [] oV3 [oN3, oZ]) (y2 % 3).toNat (by omega)
          obtain ⟨nn, hnn⟩ : ∃ z_, (nm3 (y1 % 3).toNat) = z_ := ⟨_, rfl⟩
          rw [hnn] at L1 L2 L3 L4 L5 L6 L7 L8 L9 L10 L11 hst
          obtain ⟨vv, hvv⟩ : ∃ z_, (vl3 (y2 % 3).toNat) = z_ := ⟨_, rfl⟩
          rw [hvv] at L12 L13 L14 L15 L16 L17 L18 L19 L20 L21 L22 hst
          clear hy1 hy2 hh3 hm0 hnn hvv hmm
          replace A1 := Lib.hid A1
          replace hst := Lib.hid hst
          replace hown := Lib.hid hown
          replace hM := Lib.hid hM
          replace hR := Lib.hid hR
          replace hb := Lib.hid hb
          replace hln := Lib.hid hln
          replace hge := Lib.hid hge
          replace hHd := Lib.hid hHd
          go_upto_region 10 with (with_reducible refine A1.out.mono ?_; rintro e w' ⟨rfl, rfl⟩)
          go_cut [7] from 24 to 72 (fun v wx => ∃ y, v = .pointer (some ⟨y, 0, none⟩) ∧ wx.heap[y]? = some (.cells #[S nn, S vv] 42 (0, 0)) ∧ wr.heap.size ≤ y ∧ Bl wr wx)
          case first =>
            go_region
            all_goals
              go_wp2_with fail
              go_meet
              case rel =>
               first
                | exact ⟨_, rfl, alls_at wr [] (oH ⟨nn, vv⟩) [oN3, oV3], by omega, ((((Bl.rfl' wr).al (oH ⟨nn, vv⟩)).al oN3).al oV3).dr⟩
                | exact ⟨_, rfl, alls_at wr [] (oH ⟨nn, vv⟩) [oV3, oN3], by omega, ((((Bl.rfl' wr).al (oH ⟨nn, vv⟩)).al oV3).al oN3).dr⟩
                | exact ⟨_, rfl, alls_at wr [oN3] (oH ⟨nn, vv⟩) [oV3], by omega, ((((Bl.rfl' wr).al oN3).al (oH ⟨nn, vv⟩)).al oV3).dr⟩
                | exact ⟨_, rfl, alls_at wr [oN3, oV3] (oH ⟨nn, vv⟩) [], by omega, ((((Bl.rfl' wr).al oN3).al oV3).al (oH ⟨nn, vv⟩)).dr⟩
                | exact ⟨_, rfl, alls_at wr [oV3] (oH ⟨nn, vv⟩) [oN3], by omega, ((((Bl.rfl' wr).al oV3).al (oH ⟨nn, vv⟩)).al oN3).dr⟩
                | exact ⟨_, rfl, alls_at wr [oV3, oN3] (oH ⟨nn, vv⟩) [], by omega, ((((Bl.rfl' wr).al oV3).al oN3).al (oH ⟨nn, vv⟩)).dr⟩
          case rest =>
            obtain ⟨y, rfl, hyb, hyy, hbc⟩ := hcut
            have hM2 := blk_bl hM.out hbc
            have hR2 := blk_bl hR.out hbc
            have hO2 : wc.ownsRow (pm + 1) 42 2 (.slice ra (mhF z0 i).length rcap) (mhF z0 i).length (flatB hB (mhF z0 i)) := OwnB.bl hown.out hbc
            have hb2 := hb.out.tr hbc
            have hHd2 := hHd.out.bl hbc
            have hwc : pm < wc.heap.size := lt_of_block hM2
            have hype : pm < y := by omega
            have hst := hst.out
            have hln := hln.out
            have h8 : wr.heap.size ≤ wc.heap.size := hbc.size
            have hyl := lt_of_block hyb
            clear L1 L2 L3 L4 L5 L6 L7 L8 L9 L10 L11 L12 L13 L14 L15 L16 L17 L18 L19 L20 L21 L22 hM hR hown hb hHd hbc hyy A1
            obtain ⟨A, hA⟩ : ∃ z_, (mhF z0 i) = z_ := ⟨_, rfl⟩
            rw [hA] at hst hO2 hHd2 hM2 hln
            have RG := rget_any _ A nn wc hHd2 (by omega)
            obtain ⟨ln, hlnn⟩ : ∃ z_, (A.length) = z_ := ⟨_, rfl⟩
            rw [hlnn] at hO2 hM2 RG hln
            have m2 := cell_at hM2 2
            have c0 := cell_at hyb 0
            have c1 := cell_at hyb 1
            simp only [List.getElem?_toArray, List.getElem?_cons_succ, List.getElem?_cons_zero] at m2 c0 c1
            rcases hgv : getH A nn with _ | g
            · have hgt : getV A nn = .tuple #[S ByteArray.empty, .bool false] := by unfold getV; rw [hgv]
              rw [hgt] at RG
              rw [if_pos ⟨h3, by rw [hgv]; rfl⟩] at hst
              clear hgt hgv hHd2
              have hOa : (wc.alloc (.cells #[S nn, S vv] 42)).ownsRow (pm + 1) 42 2 (.slice ra ln rcap) ln (flatB hB A) := own_below hO2 ((Bl.rfl' wc).al _)
              have mf := free_at hM2
              replace RG := Lib.hid RG
              replace hst := Lib.hid hst
              replace hO2 := Lib.hid hO2
              replace hM2 := Lib.hid hM2
              replace hR2 := Lib.hid hR2
              replace hb2 := Lib.hid hb2
              replace hln := Lib.hid hln
              replace hlnn := Lib.hid hlnn
              replace hA := Lib.hid hA
              replace hyb := Lib.hid hyb
              replace hwc := Lib.hid hwc
              replace hype := Lib.hid hype
              replace h8 := Lib.hid h8
              replace hyl := Lib.hid hyl
              go_wp2_with fail
              with_reducible refine (RG.out).mono ?_
              rintro e w' ⟨rfl, rfl⟩
              go_wp2_with (at_builtin; refine wpList_append_row rfl _ _ 22 rfl (pm + 1) 42 iu (.agg #[S ByteArray.empty, S ByteArray.empty]) 2 32 Try.underlying22 hiu zu0 zu1 zu2 rfl (by decide) _ ln (flatB hB A) rfl hO2.out #[S nn, S vv] _ rfl (by intro u hu; simp at hu; rcases hu with rfl | rfl <;> rfl) 1 (by first | rfl | simp [Act.eval, Act.put]) (by have := hln.out; omega) (by have := hln.out; omega) (by have := hwc.out; omega) ?_)
              intro b8 cap8 w7 hown7 hgrow7
              have hO7 : OwnB hB 2 42 w7 (pm + 1) (.slice (some ⟨b8, 0, none⟩) (ln + 1) cap8) (A ++ [⟨nn, vv⟩]) := by unfold OwnB; rw [flatB_snoc, List.length_append, hlnn.out]; exact hown7
              have hkeep : ∀ k, k < pm + 1 → k < wc.heap.size → w7.heap[k]? = wc.heap[k]? := fun k hk hk2 => hgrow7.block k hk2 (by
                rcases own_ne hO2.out hk with h | h
                · rw [h]; exact fun e => by cases e
                · exact Ne.symm h)
              have hM7 := (hkeep pm (by omega) hwc.out).trans hM2.out
              have hR7 := (hkeep r0 (by have := hge.out; omega) (by have := hge.out; have := hwc.out; omega)).trans hR2.out
              have hb7 := hb2.out.grown hgrow7 (fun k hk => by have := (hO2.out.lt k hk).1; have := hge.out; have := hr0.out; omega)
              have c72 := cell_at hM7 2
              have f72 := free_at hM7
              simp only [List.getElem?_toArray, List.getElem?_cons_succ, List.getElem?_cons_zero] at c72
              have hM8 := set_at 2 (.slice (some ⟨b8, 0, none⟩) (ln + 1) cap8) hM7
              simp only [List.setIfInBounds_toArray, List.set_cons_zero, List.set_cons_succ] at hM8
              have g8 := gby_set w7 pm 2 (.slice (some ⟨b8, 0, none⟩) (ln + 1) cap8)
              have hO8 := OwnB.gby hO7 g8 (by omega)
              have hR8 := (g8.block r0 (lt_of_block hR7) (fun e => by cases e; have := hge.out; omega)).trans hR7
              have hb8 := hb7.gp g8 (by have := hge.out; have := hr0.out; omega)
              obtain ⟨w8, hw8⟩ : ∃ X, w7.setCell ⟨pm, 2, none⟩ (.slice (some ⟨b8, 0, none⟩) (ln + 1) cap8) = X := ⟨_, rfl⟩
              rw [hw8] at hM8 hO8 hR8 hb8
              clear hO7 hkeep hM7 hR7 hb7 g8 hown7 hgrow7 c0 c1 m2 mf hOa hO2 hM2 hR2 hb2
              replace hM8 := Lib.hid hM8
              replace hO8 := Lib.hid hO8
              replace hR8 := Lib.hid hR8
              replace hb8 := Lib.hid hb8
              go_wp2_with fail
              go_roundw
              case rel => exact ⟨i + 1, _, by first | rfl | go_num, by omega, by omega, hM8.out, by rw [hst.out]; exact hO8.out, hR8.out, hb8.out⟩
              case measure => simp [intOf] <;> omega
            · have hgt : getV A nn = .tuple #[S g.v, .bool true] := by unfold getV; rw [hgv]
              rw [hgt] at RG
              rw [if_neg (fun hh => by rw [hgv] at hh; cases hh.2)] at hst
              clear hgt hgv hHd2
              replace RG := Lib.hid RG
              replace hst := Lib.hid hst
              replace hO2 := Lib.hid hO2
              replace hM2 := Lib.hid hM2
              replace hR2 := Lib.hid hR2
              replace hb2 := Lib.hid hb2
              replace hln := Lib.hid hln
              replace hlnn := Lib.hid hlnn
              replace hA := Lib.hid hA
              replace hyb := Lib.hid hyb
              replace hwc := Lib.hid hwc
              replace hype := Lib.hid hype
              replace h8 := Lib.hid h8
              replace hyl := Lib.hid hyl
              go_wp2_with fail
              with_reducible refine (RG.out).mono ?_
              rintro e w' ⟨rfl, rfl⟩
              go_wp2_with fail
              go_roundw
              case rel => exact ⟨i + 1, _, by first | rfl | go_num, by omega, by omega, hM2.out, by unfold OwnB; rw [hst.out, hlnn.out]; exact hO2.out, hR2.out, hb2.out⟩
              case measure => simp [intOf] <;> omega
        · have e3 : ((x' % 3) == 0) = false := beq_eq_false_iff_ne.2 h3
          rw [if_neg (fun hh => h3 hh.1)] at hst
          clear hHd
          replace A1 := Lib.hid A1
          replace hst := Lib.hid hst
          replace hown := Lib.hid hown
          replace hM := Lib.hid hM
          replace hR := Lib.hid hR
          replace hb := Lib.hid hb
          replace hln := Lib.hid hln
          replace hge := Lib.hid hge
          go_wp2_with fail
          with_reducible refine (A1.out).mono ?_
          rintro e w' ⟨rfl, rfl⟩
          go_wp2_with fail
          go_roundw
          case rel => exact ⟨i + 1, _, by first | rfl | go_num, by omega, by omega, hM.out, by rw [hst.out]; exact hown.out, hR.out, hb.out⟩
          case measure => simp [intOf] <;> omega
      · have hmi : max 1 (min N 3) = i := by omega
        rw [hmi] at hfin
        have m0 := cell_at hM 0
        have m1 := cell_at hM 1
        have m2 := cell_at hM 2
        have x0 := cell_at hR 0
        have x1 := cell_at hR 1
        have x2 := cell_at hR 2
        have rf := free_at hR
        simp only [List.getElem?_toArray, List.getElem?_cons_succ, List.getElem?_cons_zero] at m0 m1 m2 x0 x1 x2
        obtain ⟨A, hA⟩ : ∃ z_, (mhF z0 i) = z_ := ⟨_, rfl⟩
        rw [hA] at hown m2 hM hHd hfin
        have hOO : OwnB hB 2 42 wr (pm + 1) (.slice ra A.length rcap) A := hown
        obtain ⟨ln, hlnn⟩ : ∃ z_, (A.length) = z_ := ⟨_, rfl⟩
        rw [hlnn] at m2 hM
        have f0 := set3 hR (S p) (.bool b) (.slice ra ln rcap)
        have g0 := set3_gb wr r0 (S p) (.bool b) (.slice ra ln rcap)
        rw [hlnn] at hOO
        have hO2 := (OwnB.gby hOO g0 (by omega)).base (c := r0) (by omega)
        have hb2 := hb.gp g0 (by omega)
        obtain ⟨z, hz⟩ : ∃ X, ((wr.setCell ⟨r0, 0, none⟩ (S p)).setCell ⟨r0, 1, none⟩ (.bool b)).setCell ⟨r0, 2, none⟩ (.slice ra ln rcap) = X := ⟨_, rfl⟩
        rw [hz] at f0 hO2 hb2
        have y0 := cell_at f0 0
        have y1 := cell_at f0 1
        have y2 := cell_at f0 2
        simp only [List.getElem?_toArray, List.getElem?_cons_succ, List.getElem?_cons_zero] at y0 y1 y2
        clear hM hR hown hOO g0 f0 hb hrg hst hln hHd hrc hrc2
        replace hO2 := Lib.hid hO2
        replace hb2 := Lib.hid hb2
        replace hfin := Lib.hid hfin
        by_cases hlN : i < N
        · have d1 : decide ((i : Int) < (N : Int)) = true := decide_eq_true (by omega)
          have d2 : decide ((i : Int) < 3) = false := decide_eq_false (by omega)
          have d3 : decide (i < N) = true := decide_eq_true hlN
          have d4 : decide (i < 3) = false := decide_eq_false (by omega)
          go_wp2_with fail
          refine bodyPost_ret (v := mV p b (.slice ra ln rcap)) (by simp [results, Try.results16, go_sem, y0, y1, y2]) rfl ?_
          exact ⟨_, rfl, by rw [hfin.out, hr0.out]; exact hO2.out, hb2.out⟩
        · have d1 : decide ((i : Int) < (N : Int)) = false := decide_eq_false (by omega)
          have d3 : decide (i < N) = false := decide_eq_false hlN
          go_wp2_with fail
          refine bodyPost_ret (v := mV p b (.slice ra ln rcap)) (by simp [results, Try.results16, go_sem, y0, y1, y2]) rfl ?_
          exact ⟨_, rfl, by rw [hfin.out, hr0.out]; exact hO2.out, hb2.out⟩
end Go.Proofs.Ytpdcadlgdpkkoaa.mat
