/-
  Scramble is one to one; so is Mix in each of its two.
-/
import Derived.Test.YtbmgengcacoiaaaDrawC
namespace Go.Proofs.Ytbmgengcacoiaaa.draw
open Go.ChangeShapes Go.WideShapes Go.ChangeAt Go.RowKit
set_option linter.unusedVariables false
set_option linter.unusedSimpArgs false

theorem shift_inj (s : Nat) (hs : 0 < s) (x y : Nat) (hx : x < 18446744073709551616) (hy : y < 18446744073709551616) (h : x ^^^ x / 2 ^ s = y ^^^ y / 2 ^ s) : x = y := by
  have key : ∀ m i, 64 ≤ i + m → x.testBit i = y.testBit i := by
    intro m
    induction m with
    | zero =>
      intro i hi
      have e : (18446744073709551616 : Nat) ≤ 2 ^ i := by
        have := Nat.pow_le_pow_right (n := 2) (by omega) (show 64 ≤ i by omega)
        omega
      rw [Nat.testBit_lt_two_pow (Nat.lt_of_lt_of_le hx e), Nat.testBit_lt_two_pow (Nat.lt_of_lt_of_le hy e)]
    | succ m ih =>
      intro i hi
      have h1 : (x ^^^ x / 2 ^ s).testBit i = (y ^^^ y / 2 ^ s).testBit i := by rw [h]
      rw [Nat.testBit_xor, Nat.testBit_xor, Nat.testBit_div_two_pow, Nat.testBit_div_two_pow, ih (i + s) (by omega)] at h1
      revert h1
      cases x.testBit i <;> cases y.testBit i <;> cases y.testBit (i + s) <;> decide
  exact Nat.eq_of_testBit_eq fun i => key 64 i (by omega)

theorem mul_inj (c d : Nat) (h : c * d % 18446744073709551616 = 1) (x y : Nat) (hx : x < 18446744073709551616) (hy : y < 18446744073709551616) (e : x * c % 18446744073709551616 = y * c % 18446744073709551616) : x = y := by
  have k : ∀ z, z < 18446744073709551616 → z * c % 18446744073709551616 * d % 18446744073709551616 = z := by
    intro z hz
    rw [Nat.mod_mul_mod, Nat.mul_assoc, Nat.mul_mod, h, Nat.mul_one, Nat.mod_mod, Nat.mod_eq_of_lt hz]
  rw [← k x hx, e, k y hy]

theorem mixN_inj (s t c d : Nat) (ht : t = 2 ^ s) (hs : 0 < s) (h : c * d % 18446744073709551616 = 1) (x y : Nat) (hx : x < 18446744073709551616) (hy : y < 18446744073709551616) (e : mixN t c x = mixN t c y) : x = y := by
  subst ht
  refine shift_inj s hs x y hx hy (mul_inj c d h _ _ (xor_lt hx (Nat.lt_of_le_of_lt (Nat.div_le_self ..) hx)) (xor_lt hy (Nat.lt_of_le_of_lt (Nat.div_le_self ..) hy)) e)

theorem scrN_inj (x y : Nat) (hx : x < 18446744073709551616) (hy : y < 18446744073709551616) (e : scrN x = scrN y) : x = y := by
  have h1 := shift_inj 31 (by omega) _ _ (mixN_lt ..) (mixN_lt ..) e
  have h2 := mixN_inj 27 134217728 10723151780598845931 3573116690164977347 (by decide +kernel) (by omega) (by decide +kernel) _ _ (mixN_lt ..) (mixN_lt ..) h1
  exact mixN_inj 30 1073741824 13787848793156543929 10871156337175269513 (by decide +kernel) (by omega) (by decide +kernel) _ _ hx hy h2

theorem scr_inj {a b : Int} (a0 : 0 ≤ a) (a1 : a ≤ 18446744073709551615) (b0 : 0 ≤ b) (b1 : b ≤ 18446744073709551615) (h : scr a = scr b) : a = b := by
  have := scrN_inj a.toNat b.toNat (by omega) (by omega) (by unfold scr at h; omega)
  omega

def xr (a b : Int) : Int := ((a.toNat ^^^ b.toNat : Nat) : Int)
theorem xr_eq {a b : Int} (a0 : 0 ≤ a) (a1 : a ≤ 18446744073709551615) (b0 : 0 ≤ b) (b1 : b ≤ 18446744073709551615) : bits BinOp.xor IntKind.u64 a b = xr a b := by
  have := bits_xor_u64_nat a.toNat b.toNat (by omega) (by omega)
  rw [Int.toNat_of_nonneg a0, Int.toNat_of_nonneg b0] at this
  exact this
theorem xr_range {a b : Int} (a0 : 0 ≤ a) (a1 : a ≤ 18446744073709551615) (b0 : 0 ≤ b) (b1 : b ≤ 18446744073709551615) : 0 ≤ xr a b ∧ xr a b ≤ 18446744073709551615 := by
  have := xor_lt (a := a.toNat) (b := b.toNat) (by omega) (by omega)
  unfold xr; omega
theorem xr_left {a b c : Int} (b0 : 0 ≤ b) (c0 : 0 ≤ c) (h : xr a b = xr a c) : b = c := by
  have h2 : a.toNat ^^^ b.toNat = a.toNat ^^^ c.toNat := by unfold xr at h; omega
  have h3 : a.toNat ^^^ (a.toNat ^^^ b.toNat) = a.toNat ^^^ (a.toNat ^^^ c.toNat) := by rw [h2]
  rw [← Nat.xor_assoc, ← Nat.xor_assoc, Nat.xor_self, Nat.zero_xor, Nat.zero_xor] at h3
  omega
theorem xr_right {a b c : Int} (a0 : 0 ≤ a) (b0 : 0 ≤ b) (h : xr a c = xr b c) : a = b := by
  refine xr_left (a := c) a0 b0 ?_
  unfold xr at h ⊢
  rw [Nat.xor_comm c.toNat, Nat.xor_comm c.toNat]
  exact h

def mix (a b : Int) : Int := scr (IntKind.u64.wrap (11400714819323198485 + xr (scr (nst a)) b))
theorem wrap_inj {a b : Int} (a0 : 0 ≤ a) (a1 : a ≤ 18446744073709551615) (b0 : 0 ≤ b) (b1 : b ≤ 18446744073709551615) (h : IntKind.u64.wrap (11400714819323198485 + a) = IntKind.u64.wrap (11400714819323198485 + b)) : a = b := by
  rw [IntKind.wrap_u64, IntKind.wrap_u64] at h; omega
theorem wrap_range (a : Int) : 0 ≤ IntKind.u64.wrap a ∧ IntKind.u64.wrap a ≤ 18446744073709551615 := by rw [IntKind.wrap_u64]; omega
theorem nst_inj {a b : Int} (a0 : 0 ≤ a) (a1 : a ≤ 18446744073709551615) (b0 : 0 ≤ b) (b1 : b ≤ 18446744073709551615) (h : nst a = nst b) : a = b := by
  unfold nst at h; rw [IntKind.wrap_u64, IntKind.wrap_u64] at h; omega
theorem mix_right {a b c : Int} (b0 : 0 ≤ b) (b1 : b ≤ 18446744073709551615) (c0 : 0 ≤ c) (c1 : c ≤ 18446744073709551615) : mix a b = mix a c ↔ b = c := by
  refine ⟨fun h => ?_, fun h => by rw [h]⟩
  have r1 := xr_range (scr_lo (nst a)) (scr_hi (nst a)) b0 b1
  have r2 := xr_range (scr_lo (nst a)) (scr_hi (nst a)) c0 c1
  exact xr_left b0 c0 (wrap_inj r1.1 r1.2 r2.1 r2.2 (scr_inj (wrap_range _).1 (wrap_range _).2 (wrap_range _).1 (wrap_range _).2 h))
theorem mix_left {a b c : Int} (a0 : 0 ≤ a) (a1 : a ≤ 18446744073709551615) (b0 : 0 ≤ b) (b1 : b ≤ 18446744073709551615) (c0 : 0 ≤ c) (c1 : c ≤ 18446744073709551615) : mix a c = mix b c ↔ a = b := by
  refine ⟨fun h => ?_, fun h => by rw [h]⟩
  have r1 := xr_range (scr_lo (nst a)) (scr_hi (nst a)) c0 c1
  have r2 := xr_range (scr_lo (nst b)) (scr_hi (nst b)) c0 c1
  have e := xr_right (scr_lo _) (scr_lo _) (wrap_inj r1.1 r1.2 r2.1 r2.2 (scr_inj (wrap_range _).1 (wrap_range _).2 (wrap_range _).1 (wrap_range _).2 h))
  exact nst_inj a0 a1 b0 b1 (scr_inj (nst_range a).1 (nst_range a).2 (nst_range b).1 (nst_range b).2 e)

/-! ### The numbers of a seed -/
def stk (seed : Int) : Nat → Int
  | 0 => seed
  | k + 1 => nst (stk seed k)
theorem stk_eq (seed : Int) (h0 : 0 ≤ seed) (h1 : seed ≤ 18446744073709551615) : ∀ k : Nat, stk seed k = (seed + k * 11400714819323198485) % 18446744073709551616
  | 0 => by simp only [stk]; omega
  | k + 1 => by
    rw [stk, stk_eq seed h0 h1 k, nst, IntKind.wrap_u64, Int.emod_add_emod]
    congr 1
    rw [show ((k + 1 : Nat) : Int) = (k : Int) + 1 by omega, Int.add_mul, Int.one_mul, Int.add_assoc]
theorem gold_apart : ∀ d : Fin 41, d.val ≠ 0 → ((d.val : Int) * 11400714819323198485) % 18446744073709551616 ≠ 0 := by decide +kernel
theorem stk_range (seed : Int) (h0 : 0 ≤ seed) (h1 : seed ≤ 18446744073709551615) (k : Nat) : 0 ≤ stk seed k ∧ stk seed k ≤ 18446744073709551615 := by
  rw [stk_eq seed h0 h1 k]
  have := Int.emod_nonneg (seed + k * 11400714819323198485) (show (18446744073709551616 : Int) ≠ 0 by decide)
  have := Int.emod_lt_of_pos (seed + k * 11400714819323198485) (show (0 : Int) < 18446744073709551616 by decide)
  omega
theorem stk_inj (seed : Int) (h0 : 0 ≤ seed) (h1 : seed ≤ 18446744073709551615) {i j : Nat} (hj : j ≤ 40) (hij : i < j) : stk seed i ≠ stk seed j := by
  obtain ⟨d, rfl⟩ : ∃ d, j = i + d := ⟨j - i, by omega⟩
  have g : (d : Int) * 11400714819323198485 % 18446744073709551616 ≠ 0 := gold_apart ⟨d, by omega⟩ (show d ≠ 0 by omega)
  rw [stk_eq seed h0 h1 i, stk_eq seed h0 h1 (i + d), Int.natCast_add, Int.add_mul]
  clear hj hij h0 h1
  intro h
  have h2 := Int.emod_eq_emod_iff_emod_sub_eq_zero.1 h.symm
  clear h
  revert h2 g
  generalize (i : Int) * 11400714819323198485 = x

  generalize (d : Int) * 11400714819323198485 = y
  rw [show seed + (x + y) - (seed + x) = y by omega]
  exact fun g h => g h
def num (seed : Int) (k : Nat) : Int := scr (stk seed (k + 1))
theorem num_inj (seed : Int) (h0 : 0 ≤ seed) (h1 : seed ≤ 18446744073709551615) {i j : Nat} (hj : j < 40) (hij : i < j) : num seed i ≠ num seed j := fun h =>
  stk_inj seed h0 h1 (i := i + 1) (j := j + 1) (by omega) (by omega) (scr_inj (stk_range seed h0 h1 _).1 (stk_range seed h0 h1 _).2 (stk_range seed h0 h1 _).1 (stk_range seed h0 h1 _).2 h)
end Go.Proofs.Ytbmgengcacoiaaa.draw
