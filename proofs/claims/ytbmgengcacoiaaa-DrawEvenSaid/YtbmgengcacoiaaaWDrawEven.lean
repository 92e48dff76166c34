/-
  DrawEven is true for every input: of n numbers one behind the other Below(n) tells each one once. No condition.
-/
import Derived.Test.YtbmgengcacoiaaaDrawD
import Derived.Test.YtbmgengcacoiaaaAround
import Derived.Test.YtbmgengcacoiaaaHas
namespace Go.Proofs.Ytbmgengcacoiaaa.drawEven
open Go.ChangeShapes Go.WideShapes Go.ChangeAt Go.RowKit
open Go.Proofs.Ytbmgengcacoiaaa.draw
set_option linter.unusedVariables false
set_option linter.unusedSimpArgs false

def rng (b : Int) (k : Nat) : List Int := (List.range k).map (fun i => b + (i : Nat))
def res (b m : Int) (k : Nat) : List Int := (List.range k).map (fun i => (b + (i : Nat)) % m)
def is (z : List Int) : List Value := z.map I
theorem infoI : (Try.prog.info? 3).map (fun i => (i.zero, i.size, i.bytes)) = some (some (.int .i64 0), 1, 8) := by kernel_rfl
theorem rng_len (b : Int) (k : Nat) : (rng b k).length = k := by simp [rng]
theorem rng_get (b : Int) (k i : Nat) (h : i < k) : (rng b k)[i]? = some (b + i) := by simp [rng, h]
theorem rng_succ (b : Int) (k : Nat) : us (rng b (k + 1)) = us (rng b k) ++ [U (b + k)] := by simp [rng, us, List.range_succ]
theorem res_succ (b m : Int) (k : Nat) : is (res b m (k + 1)) = is (res b m k) ++ [I ((b + k) % m)] := by simp [res, is, List.range_succ]
theorem res_len (b m : Int) (k : Nat) : (res b m k).length = k := by simp [res]
theorem rng_ok (b : Int) (k : Nat) (h0 : 0 ≤ b) (h1 : b + k ≤ 18446744073709551615) : u64ok (rng b k) := by
  intro n hn
  simp only [rng, List.mem_map, List.mem_range] at hn
  obtain ⟨i, hi, rfl⟩ := hn
  omega
theorem rng_drop (b : Int) (m k : Nat) (h : k < m) : (rng b m).drop k = (b + k) :: (rng b m).drop (k + 1) := by
  rw [List.drop_eq_getElem_cons (by rw [rng_len]; exact h)]
  congr 1
  simp [rng]
theorem res_new (b m : Int) (k : Nat) (h : (k : Int) < m) : (b + k) % m ∉ res b m k := by
  intro hm
  simp only [res, List.mem_map, List.mem_range] at hm
  obtain ⟨i, hi, he⟩ := hm
  have h1 := Int.emod_emod_of_dvd
  have h2 : (b + k - (b + i)) % m = 0 := Int.emod_eq_emod_iff_emod_sub_eq_zero.1 he.symm
  rw [show b + (k : Int) - (b + i) = (k : Int) - i by omega, Int.emod_eq_of_lt (by omega) (by omega)] at h2
  omega
theorem is_at {w : World} {base : Nat} {v : Value} {z : List Int} (h : w.ownsRow base 3 1 v z.length (is z)) : IntsAt w v z := by
  have := Rd.of_own h (g := icell z) (fun i hi => by
    simp only [icell, is, List.getElem?_map, List.getD_eq_getElem?_getD]
    rw [List.getElem?_eq_getElem (by omega)]; rfl)
  rwa [Nat.mul_one] at this

set_option maxHeartbeats 2000000 in
theorem walk (f : Int) (l0 : 0 ≤ f) (u0 : f ≤ 18446744073709551615) (n : Int) (l1 : -9223372036854775808 ≤ n) (u1 : n ≤ 9223372036854775807) (w : World) :
    Calls Try.prog 4 #[.int .u64 f, .int .i64 n] w fun e w' => e = .returned (.bool true) ∧ Bl w w' := by
  have A0 := fun w => around_any n 30 w l1 u1 (by omega) (by omega)
  have n0 := around_lo n 30 (by omega); have n1 := around_hi n 30 (by omega)
  obtain ⟨m', hm'⟩ : ∃ t, around n 30 = t := ⟨_, rfl⟩
  rw [hm'] at A0 n0 n1
  obtain ⟨m, hm⟩ : ∃ t, 1 + m' = t := ⟨_, rfl⟩
  have m0 : 1 ≤ m := by omega
  have m1 : m ≤ 30 := by omega
  obtain ⟨M, hM⟩ : ∃ M : Nat, (M : Int) = m := ⟨m.toNat, by omega⟩
  replace A0 := Lib.hid A0
  clear hm'
  replace hm := Lib.hid hm
  obtain ⟨b, hb⟩ : ∃ b, f / 2 = b := ⟨_, rfl⟩
  have b0 : 0 ≤ b := by omega
  have b1 : b ≤ 9223372036854775807 := by omega
  replace hb := Lib.hid hb
  obtain ⟨iu, hiu, zu0, zu1, zu2⟩ := info_parts Try.info22
  obtain ⟨ii, hii, zi0, zi1, zi2⟩ := info_parts infoI
  go_enter Try.func4, Try.ntmps4
  go_wp2_with fail
  refine (A0.out _).mono ?_
  rintro e w' ⟨rfl, rfl⟩
  go_wp2_with fail
  rw [hm.out]
  try rw [hb.out]
  go_loopw [6, 8] (fun s i wr => ∃ k : Nat, k ≤ M ∧ wr.ownsRow w.heap.size 22 1 s k (us (rng b k)) ∧ i = I k ∧ Bl w wr) (fun _ i _ => M - (intOf i).toNat)
  case atStart => exact ⟨0, by omega, World.ownsRow_nil _ _ _ _, rfl, Bl.rfl' _⟩
  case round =>
    obtain ⟨k, hk, hown, rfl, hbl⟩ := hrel
    by_cases hlt : k < M
    · have k1 : (k : Int) < m := by omega
      have e1 : IntKind.u64.wrap (b + IntKind.u64.wrap (k : Int)) = b + k := by rw [IntKind.wrap_u64, IntKind.wrap_u64]; omega
      have hs := Lib.hid (rng_succ b k)
      go_wp2_with (at_builtin; refine wpList_append_own _ rfl _ _ 30 rfl w.heap.size 22 iu (.int .u64 0) 1 8 Try.underlying30 hiu zu0 zu1 zu2 rfl (by decide) _ k (us (rng b k)) rfl (hown.alloc _) ⟨wr.heap.size, 0, none⟩ 1 1 [U (b + k)] rfl rfl ?c1 ?c2 ?c3 ?c4 ?c5 ?_)
      case c1 => exact one_cell _ _ _
      case c2 => intro u hu; simp at hu; subst hu; rfl
      case c3 => unfold maxLen; omega
      case c4 => omega
      case c5 => have := hbl.size; simp; omega
      intro v' w1 hown' hgrow _
      have hb1 := bl_app hbl hown hgrow
      rw [← hs.out] at hown'
      clear hgrow hown hbl
      go_wp2_with fail
      go_roundw
      case rel => exact ⟨k + 1, by omega, hown', by go_num, hb1⟩
      case measure => simp [intOf]; omega
    · obtain rfl : k = M := by omega
      have hL := rng_len b k
      have hrd := Rd.of_own hown (g := fun i => U ((rng b k).getD i 0)) (fun i hi => us_get _ i (by omega))
      obtain ⟨sb, off, cap, rfl, hcap, hcm, hsl, hcc⟩ : ∃ b' off cap, u6 = .slice (some ⟨b', off, none⟩) k cap ∧ k ≤ cap ∧ cap ≤ maxLen ∧ b' < wr.heap.size ∧ ∀ i, i < k * 1 → wr.cell? ⟨b', off + i, none⟩ = some (U ((rng b k).getD i 0)) := by
        rcases hrd with ⟨_, _, _, h, _⟩ | h
        · omega
        · exact h
      have ok := rng_ok b k b0 (by omega)
      have N := new_some wr 0 sb off cap (rng b k) (by omega) (by omega) ok (by rw [hL]; omega) (fun i hi => hcc i (by omega))
      rw [hL] at N
      replace N := Lib.hid N
      replace hL := Lib.hid hL
      clear hcc hrd hown ok hcap hcm hsl
      replace hbl := Lib.hid hbl
      have hkm : (k : Int) = m := hM
      rw [← hkm] at hm
      subst hkm
      go_wp2_with fail
      refine N.out.mono ?_
      rintro e w1 ⟨p, rfl, hwp, hat, hb1⟩
      replace hat := hat.weak
      have hb2 : Bl w w1 := hbl.out.tr hb1
      have hwp2 : w.heap.size ≤ p := Nat.le_trans hbl.out.size hwp
      have hp1 := hat.lt
      clear hb1 hbl N hL hwp
      go_wp2_with fail
      go_loopw [10, 11, 12] (fun s i _ wr => ∃ j : Nat, j ≤ k ∧ wr.ownsRow (p + 1) 3 1 s j (is (res b k j)) ∧ i = I j ∧ At wr p ((rng b k).drop j) 0 j ∧ Bl w wr) (fun _ i _ _ => k - (intOf i).toNat)
      case atStart => exact ⟨0, by omega, World.ownsRow_nil _ _ _ _, rfl, hat, hb2⟩
      case round =>
        obtain ⟨j, hj, hown, rfl, hat, hbl⟩ := hrel
        by_cases hlt2 : j < k
        · have hdr := rng_drop b k j hlt2
          have B := below_any wr p _ _ _ (k : Int) hat (by omega) (by omega) (by omega) (by omega)
          rw [hdr] at B
          change Calls _ _ _ _ (fun e w' => e = .returned (.int .i64 ((b + j) % (k : Int))) ∧ At w' p ((rng b k).drop (j + 1)) 0 ((j : Int) + 1) ∧ wr.grownBy w' (some p)) at B
          have r0 := Int.emod_nonneg (b + j) (show (k : Int) ≠ 0 by omega)
          have r1 := Int.emod_lt_of_pos (b + j) (show 0 < (k : Int) by omega)
          have hnew := res_new b k j (by omega)
          have hsucc := res_succ b k j
          have hrl := res_len b k j
          obtain ⟨x, hx⟩ : ∃ x, (b + j) % (k : Int) = x := ⟨_, rfl⟩
          rw [hx] at B r0 r1 hnew hsucc
          obtain ⟨R, hR⟩ : ∃ R, res b k j = R := ⟨_, rfl⟩
          rw [hR] at hnew hsucc hrl hown
          replace hsucc := Lib.hid hsucc; replace hnew := Lib.hid (decide_eq_false hnew); replace hrl := Lib.hid hrl
          replace B := Lib.hid B
          clear hdr hx hR hat
          go_wp2_with fail
          refine B.out.mono ?_
          rintro e w2 ⟨rfl, hat2, hg2⟩
          have hown2 : w2.ownsRow (p + 1) 3 1 u10 j (is R) := hown.kept hg2 (Or.inr (fun h => by have := (hown.lt p h).1; omega))
          have hb3 : Bl w w2 := hbl.gp hg2 hwp2
          have hp2 := hat2.lt
          have hz : IntsAt w2 u10 R := is_at (by rw [hrl.out]; exact hown2)
          have H := Lib.hid (has_any R x u10 w2 hz (by rw [hrl.out]; unfold maxLen; omega))
          clear hown hg2 hbl hz
          go_wp2_with fail
          refine H.out.mono ?_
          rintro e w' ⟨rfl, rfl⟩
          rw [hnew.out]
          go_wp2_with (at_builtin; refine wpList_append_own _ rfl _ _ 33 rfl (p + 1) 3 ii (.int .i64 0) 1 8 Try.underlying33 hii zi0 zi1 zi2 rfl (by decide) _ j (is R) rfl (hown2.alloc _) ⟨w2.heap.size, 0, none⟩ 1 1 [I x] rfl rfl ?d1 ?d2 ?d3 ?d4 ?d5 ?_)
          case d1 => exact one_cell _ _ _
          case d2 => intro u hu; simp at hu; subst hu; rfl
          case d3 => unfold maxLen; omega
          case d4 => omega
          case d5 => simp; omega
          intro v' w3 hown' hgrow _
          have hat3 := (hat2.alloc (.cells #[.int .i64 x] 3)).grown hgrow (fun k hk => by have := (hown2.lt k hk).1; omega)
          have hb4 : Bl w w3 := (hb3.al _).grown hgrow (fun k hk => by have := (hown2.lt k hk).1; omega)
          rw [← hsucc.out] at hown'
          clear hgrow hown2 hb3 hat2
          go_wp2_with fail
          go_roundw
          case rel => exact ⟨j + 1, by omega, hown', by go_num, hat3, hb4⟩
          case measure => simp [intOf]; omega
        · obtain rfl : j = k := by omega
          go_wp2_with fail
          refine (lives02 _).mono ?_
          rintro e w4 ⟨rfl, hb4⟩
          go_wp2_with fail
          go_ret
          exact ⟨rfl, hbl.tr hb4⟩
end Go.Proofs.Ytbmgengcacoiaaa.drawEven
