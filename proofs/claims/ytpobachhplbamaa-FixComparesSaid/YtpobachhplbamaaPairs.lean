/-
  Contracts of what layer 1's statements make of numbers (Pairs), and of the document's examples (lives).
-/
import Derived.Test.YtpobachhplbamaaFarA
import Derived.Test.YtpobachhplbamaaGen
namespace Go.Proofs.Ytpobachhplbamaa
open Go.ChangeShapes Go.WideShapes Go.ChangeAt Go.RowKit
set_option linter.unusedVariables false
set_option linter.unusedSimpArgs false

def mkpair (z : Int) : Int × Int := (around z 1000000 / 40 % (1 + around z 1000000 % 40 + 1), 1 + around z 1000000 % 40)
def pairs (z : List Int) : List (Int × Int) := (z.take 20).map mkpair
theorem mkpair_fair (z : Int) : fair (mkpair z) := by
  have h1 := Int.emod_nonneg (around z 1000000) (show (40 : Int) ≠ 0 by omega)
  have h2 := Int.emod_lt_of_pos (around z 1000000) (show (0 : Int) < 40 by omega)
  unfold fair mkpair
  simp only
  generalize around z 1000000 % 40 = m at *
  have h3 := Int.emod_nonneg (around z 1000000 / 40) (show 1 + m + 1 ≠ 0 by omega)
  have h4 := Int.emod_lt_of_pos (around z 1000000 / 40) (show 0 < 1 + m + 1 by omega)
  omega
theorem pairs_fair (z : List Int) : ∀ p ∈ pairs z, fair p := by
  intro p hp
  obtain ⟨q, _, rfl⟩ := List.mem_map.1 hp
  exact mkpair_fair q
theorem pairs_len (z : List Int) : (pairs z).length ≤ 20 := by simp [pairs]; omega

def pflat (L : List (Int × Int)) : List Value := L.flatMap fun p => [I p.1, I p.2]
theorem pflat_len (L : List (Int × Int)) : (pflat L).length = L.length * 2 := by
  induction L with
  | nil => rfl
  | cons p l ih => simp [pflat] at ih ⊢; omega
theorem pflat_get (L : List (Int × Int)) : ∀ i, i < L.length * 2 → (pflat L)[i]? = some (pcell L i) := by
  induction L with
  | nil => intro i hi; simp at hi
  | cons p l ih =>
    intro i hi
    match i with
    | 0 => simp [pflat, pcell]
    | 1 => simp [pflat, pcell]
    | i + 2 =>
      have := ih i (by simp at hi; omega)
      simp only [pflat, List.flatMap_cons, List.cons_append, List.nil_append, List.getElem?_cons_succ] at this ⊢
      rw [this]
      unfold pcell
      rw [show (i + 2) % 2 = i % 2 by omega, show (i + 2) / 2 = i / 2 + 1 by omega]
      rfl

theorem pairs_at {w : World} {base : Nat} {e : TypeId} {v : Value} {L : List (Int × Int)} (h : w.ownsRow base e 2 v L.length (pflat L)) : PairsAt w v L := by
  have := Rd.of_own h (pflat_get L)
  rw [Nat.mul_comm] at this; exact this

theorem Try.info38 : (Try.prog.info? 38).map (fun i => (i.zero, i.size, i.bytes)) = some (some (.agg #[.int .i64 0, .int .i64 0]), 2, 16) := by kernel_rfl

def SomePairs (L : List (Int × Int)) (w : World) (e : Ending) (w' : World) : Prop := ∃ v, e = .returned v ∧ PairsAt w' v L ∧ Bl w w'

theorem pairs_nil (a : Option Addr) (cap : Nat) (w : World) :
    Calls Try.prog 30 #[.slice a 0 cap] w (SomePairs [] w) := by
  go_enter Try.func30, Try.ntmps30
  go_wp2_with fail
  go_loop [3, 4] (fun s i => s = .slice none 0 0 ∧ i = I 0) (fun _ _ => 0)
  case atStart => exact ⟨rfl, rfl⟩
  case round =>
    obtain ⟨rfl, rfl⟩ := hrel
    go_wp2_with fail
    go_ret
    exact ⟨_, rfl, Or.inl ⟨none, 0, rfl, rfl, rfl⟩, Bl.rfl' _⟩

theorem pairs_lenEq (z : List Int) : (pairs z).length = min 20 z.length := by simp [pairs]
theorem pairs_getD (z : List Int) (k : Nat) (h : k < (pairs z).length) : (pairs z).getD k (0, 0) = mkpair (z.getD k 0) := by
  rw [pairs_lenEq] at h
  simp [pairs, List.getD_eq_getElem?_getD, List.getElem?_take, show k < 20 by omega, show k < z.length by omega]
theorem pflat_snoc (L : List (Int × Int)) (p : Int × Int) : pflat (L ++ [p]) = pflat L ++ [I p.1, I p.2] := by simp [pflat]

set_option maxHeartbeats 1000000 in
theorem pairs_some (z : List Int) (b off cap : Nat) (w : World) (hz : i64ok z) (hm : z.length ≤ maxLen) (hcap : z.length ≤ cap) (hb : b < w.heap.size) (hc : ∀ i, i < z.length → w.cell? ⟨b, off + i, none⟩ = some (icell z i)) :
    Calls Try.prog 30 #[.slice (some ⟨b, off, none⟩) z.length cap] w (SomePairs (pairs z) w) := by
  obtain ⟨i0, hi, hz0, hz1, hz2⟩ := info_parts Try.info38
  unfold maxLen at hm
  have hln := pairs_lenEq z
  have hgd := pairs_getD z
  obtain ⟨L, hL⟩ : ∃ L, pairs z = L := ⟨_, rfl⟩
  rw [hL] at hln hgd ⊢
  have HG := Lib.hid hgd; clear hgd hL
  have hl1 : L.length ≤ z.length := by omega
  have hl2 : L.length ≤ 20 := by omega
  have Hln := Lib.hid hln; clear hln
  have HZ := Lib.hid hz; clear hz
  have Hc := Lib.hid hc; clear hc
  go_enter Try.func30, Try.ntmps30
  go_wp2_with fail
  go_loopw [3, 4] (fun s i wr => ∃ k : Nat, k ≤ L.length ∧ wr.ownsRow w.heap.size 38 2 s k (pflat (L.take k)) ∧ i = I k ∧ Bl w wr) (fun _ i _ => z.length - (intOf i).toNat)
  case atStart => exact ⟨0, by omega, World.ownsRow_nil _ _ _ _, rfl, Bl.rfl' _⟩
  case round =>
    obtain ⟨k, hk, hown, rfl, hbl⟩ := hrel
    by_cases hlt : k < L.length
    · have h1 : k < z.length := by omega
      have h2 : k < 20 := by omega
      have d1 : decide ((k : Int) < z.length) = true := by simp; omega
      have d2 : decide ((k : Int) < 20) = true := by simp; omega
      have c0 : wr.cell? ⟨b, off + k, none⟩ = some (.int .i64 (z.getD k 0)) := (hbl.cell (p := ⟨b, off + k, none⟩) hb).trans (Hc.out k h1)
      have hzk := HZ.out (z.getD k 0) (getD_mem z k 0 h1)
      have hfl : pflat (L.take (k + 1)) = pflat (L.take k) ++ [I (mkpair (z.getD k 0)).1, I (mkpair (z.getD k 0)).2] := by
        rw [take_snoc L k (0, 0) hlt, pflat_snoc, HG.out k hlt]
      have Hfl := Lib.hid hfl; clear hfl
      obtain ⟨x, hx⟩ : ∃ x, z.getD k 0 = x := ⟨_, rfl⟩
      rw [hx] at c0 hzk Hfl
      clear hx
      have hn0 := around_lo x 1000000 (by omega)
      have hn1 := around_hi x 1000000 (by omega)
      have hmk : mkpair x = (around x 1000000 / 40 % (1 + around x 1000000 % 40 + 1), 1 + around x 1000000 % 40) := rfl
      obtain ⟨n, hn⟩ : ∃ n, around x 1000000 = n := ⟨_, rfl⟩
      rw [hn] at hn0 hn1 hmk
      rw [hmk] at Hfl
      clear hmk
      have q0 := Int.emod_nonneg n (show (40 : Int) ≠ 0 by omega)
      have q1 := Int.emod_lt_of_pos n (show (0 : Int) < 40 by omega)
      have nz : ((1 + n % 40 + 1) == 0) = false := beq_eq_false_iff_ne.2 (by omega)
      go_wp2_with fail
      refine (around_any x 1000000 _ hzk.1 hzk.2 (by omega) (by omega)).mono ?_
      rintro e w' ⟨rfl, rfl⟩
      rw [hn]
      clear hn
      go_wp2_with (at_builtin; refine wpList_append_own _ rfl _ _ 36 rfl w.heap.size 38 i0 (.agg #[.int .i64 0, .int .i64 0]) 2 16 Try.underlying36 hi hz0 hz1 hz2 rfl (by decide) _ k (pflat (L.take k)) rfl (hown.alloc _) ⟨wr.heap.size, 0, none⟩ 1 1 [I (n / 40 % (1 + n % 40 + 1)), I (1 + n % 40)] rfl rfl ?c1 ?c2 ?c3 ?c4 ?c5 ?_)
      case c1 =>
        intro j u hj
        match j with
        | 0 => simp at hj; subst hj; simp [Addr.add]
        | 1 => simp at hj; subst hj; simp [Addr.add]
      case c2 => intro u hu; simp at hu; rcases hu with rfl | rfl <;> rfl
      case c3 => unfold maxLen; omega
      case c4 => omega
      case c5 => have := hbl.size; simp; omega
      intro v' w1 hown' hgrow _
      have hb1 : Bl w w1 := (hbl.al _).grown hgrow (fun k hk => (hown.lt k hk).1)
      rw [← Hfl.out] at hown'
      clear hgrow
      go_wp2_with fail
      go_roundw
      case rel => exact ⟨k + 1, by omega, hown', by go_num, hb1⟩
      case measure => simp [intOf]; omega
    · obtain rfl : k = L.length := by omega
      rw [List.take_length] at hown
      have hfin := pairs_at hown
      by_cases hz : L.length < z.length
      · have d1 : decide ((L.length : Int) < z.length) = true := by simp; omega
        have e20 : L.length = 20 := by have := Hln.out; omega
        have d2 : decide ((L.length : Int) < 20) = false := by simp; omega
        clear e20
        go_wp2_with fail
        go_ret
        exact ⟨_, rfl, hfin, hbl⟩
      · have d1 : decide ((L.length : Int) < z.length) = false := by simp; omega
        go_wp2_with fail
        go_ret
        exact ⟨_, rfl, hfin, hbl⟩

theorem pairs_any (z : List Int) (v : Value) (w : World) (hz : i64ok z) (hv : IntsAt w v z) (hm : z.length ≤ maxLen) :
    Calls Try.prog 30 #[v] w (SomePairs (pairs z) w) := by
  rcases hv with ⟨a, c, rfl, h0, _⟩ | ⟨b, off, cap, rfl, hl, _, hlt, hc⟩
  · have hn : z = [] := List.eq_nil_of_length_eq_zero h0
    subst hn
    exact pairs_nil a c w
  · exact pairs_some z b off cap w hz hm hl hlt hc
end Go.Proofs.Ytpobachhplbamaa
