/-
  Package split: how many numbers stand for each service (pure).
-/
import Derived.Test.YtndlglkokbchbaaSpI
namespace Go.Proofs.Ytndlglkokbchbaa.split
open Go.ChangeShapes Go.WideShapes Go.ChangeAt Go.RowKit
set_option linter.unusedVariables false
set_option linter.unusedSimpArgs false

def cntN (P : Nat → Bool) : Nat → Nat
  | 0 => 0
  | n + 1 => cntN P n + (P n).toNat
theorem cntN_add (P : Nat → Bool) (m : Nat) : ∀ n, cntN P (m + n) = cntN P m + cntN (fun i => P (m + i)) n
  | 0 => rfl
  | n + 1 => by
    show cntN P (m + n) + _ = _
    rw [cntN_add P m n, Nat.add_assoc]
    rfl
theorem cntN_const (P : Nat → Bool) (b : Bool) : ∀ n, (∀ i, i < n → P i = b) → cntN P n = n * b.toNat
  | 0, _ => by simp [cntN]
  | n + 1, h => by
    show cntN P n + _ = _
    rw [cntN_const P b n (fun i hi => h i (by omega)), h n (by omega), Nat.succ_mul]
theorem cntN_shift (P : Nat → Bool) : ∀ n, cntN (fun i => P (i + 1)) n + (P 0).toNat = cntN P n + (P n).toNat
  | 0 => by simp [cntN]
  | n + 1 => by
    have := cntN_shift P n
    show cntN (fun i => P (i + 1)) n + (P (n + 1)).toNat + _ = cntN P n + (P n).toNat + _
    omega
theorem cntN_le (P : Nat → Bool) : ∀ n, cntN P n ≤ n
  | 0 => Nat.le_refl _
  | n + 1 => by
    have := cntN_le P n
    have h : (P n).toNat ≤ 1 := by cases P n <;> simp
    show cntN P n + _ ≤ _
    omega
theorem cntN_rot (Q : Nat → Bool) (m : Nat) (h : ∀ i, Q (i + m) = Q i) : ∀ f, cntN (fun i => Q (f + i)) m = cntN Q m
  | 0 => by simp
  | f + 1 => by
    have h1 := cntN_shift (fun i => Q (f + i)) m
    have h2 := h f
    have h3 := cntN_rot Q m h f
    have h4 : (fun i => Q (f + 1 + i)) = fun i => Q (f + (i + 1)) := by funext i; congr 1; omega
    rw [h4]
    simp only [Nat.add_zero, h2] at h1
    omega
theorem cntN_times (Q : Nat → Bool) (m : Nat) (h : ∀ i, Q (i + m) = Q i) (f : Nat) : ∀ k, cntN (fun i => Q (f + i)) (k * m) = k * cntN Q m
  | 0 => by simp [cntN]
  | k + 1 => by
    rw [Nat.succ_mul, cntN_add, cntN_times Q m h f k, Nat.succ_mul]
    congr 1
    have : (fun i => Q (f + (k * m + i))) = fun i => Q (f + k * m + i) := by funext i; congr 1; omega
    rw [this]
    exact cntN_rot Q m h (f + k * m)

/-- The weights of a service together. -/
def wsum (R : List Pt) (s : Int) : Int := (R.map fun x => if x.s = s then x.w else 0).sum
theorem ahd_sum (R : List Pt) : ∀ n, n ≤ R.length → ahd R n = ((R.take n).map fun x => x.w).sum
  | 0, _ => by simp [ahd]
  | n + 1, h => by
    have hl : n < R.length := by omega
    rw [ahd_succ, ahd_sum R n (by omega), List.take_succ_eq_append_getElem hl, List.map_append, List.sum_append, List.getD, List.getElem?_eq_getElem hl]
    simp
theorem ahd_all (R : List Pt) : ahd R R.length = (R.map fun x => x.w).sum := by rw [ahd_sum R _ (Nat.le_refl _), List.take_length]
theorem wsum_app (A B : List Pt) (s : Int) : wsum (A ++ B) s = wsum A s + wsum B s := by unfold wsum; rw [List.map_append, List.sum_append]
theorem wsum_one (x : Pt) (s : Int) : wsum [x] s = if x.s = s then x.w else 0 := by unfold wsum; simp
theorem wsum_take (R : List Pt) (s : Int) {n : Nat} (h : n < R.length) : wsum (R.take (n + 1)) s = wsum (R.take n) s + if (R.getD n p0).s = s then (R.getD n p0).w else 0 := by
  rw [List.take_succ_eq_append_getElem h, wsum_app, wsum_one, List.getD, List.getElem?_eq_getElem h]
  rfl
def hitS (R : List Pt) (s : Int) (i : Nat) : Bool := decide (pickF R (i : Int) = s)
theorem hitS_period {R : List Pt} (s : Int) {m : Nat} (hm : ahd R R.length = (m : Int)) (i : Nat) : hitS R s (i + m) = hitS R s i := by
  unfold hitS pickF
  rw [hm, Int.natCast_add, Int.add_emod_right]
/-- Of the first numbers, up to what is ahead of the n-th part, those of a service are its weights. -/
theorem cnt_to {R : List Pt} (h : okP R) (s : Int) : ∀ n, n ≤ R.length → ∀ a : Nat, ahd R n = (a : Int) → (cntN (hitS R s) a : Int) = wsum (R.take n) s
  | 0, _, a, ha => by
    obtain rfl : a = 0 := by simp only [ahd] at ha; omega
    rfl
  | n + 1, hn, a, ha => by
    obtain ⟨b, hb⟩ : ∃ b : Nat, ahd R n = (b : Int) := ⟨(ahd R n).toNat, by have := h.ahd n; omega⟩
    have ih := cnt_to h s n (by omega) b hb
    have hw := (h.at n).1
    have hs := ahd_succ R n
    obtain ⟨c, hc⟩ : ∃ c : Nat, (R.getD n p0).w = (c : Int) := ⟨((R.getD n p0).w).toNat, by omega⟩
    obtain rfl : a = b + c := by omega
    rw [wsum_take R s (by omega), cntN_add, cntN_const _ (decide ((R.getD n p0).s = s)) c]
    · rw [Int.natCast_add, ih, hc]
      congr 1
      split
      · rename_i he; rw [decide_eq_true he]; simp
      · rename_i he; rw [decide_eq_false he]; simp
    · intro i hi
      unfold hitS
      have h1 := ok_mono h (show n + 1 ≤ R.length by omega)
      have hmod : ((b + i : Nat) : Int) % ahd R R.length = ((b + i : Nat) : Int) := Int.emod_eq_of_lt (by omega) (by omega)
      rw [pick_at h (k := n) (by omega) (by rw [hmod]; omega) (by rw [hmod]; omega)]
/-- Of as many numbers as so many sums, from any one on, each service gets so many times its weights. -/
theorem cnt_all {R : List Pt} (h : okP R) (s : Int) {m : Nat} (hm : ahd R R.length = (m : Int)) (f k : Nat) : (cntN (fun i => hitS R s (f + i)) (k * m) : Int) = k * wsum R s := by
  rw [cntN_times _ m (hitS_period s hm), Int.natCast_mul, cnt_to h s _ (Nat.le_refl _) m hm, List.take_length]

theorem set_range (n : Nat) (F F' : Nat → Value) (p : Nat) (h : ∀ s, s ≠ p → F' s = F s) : ((List.range n).map F).toArray.setIfInBounds p (F' p) = ((List.range n).map F').toArray := by
  apply Array.ext'
  simp only [Array.toList_setIfInBounds]
  apply List.ext_getElem?
  intro i
  rw [List.getElem?_set]
  by_cases hi : p = i
  · subst hi
    simp only [if_true, List.length_map, List.length_range, List.getElem?_map]
    by_cases hp : p < n
    · simp [hp, List.getElem?_range hp]
    · simp [hp, List.getElem?_eq_none]
  · rw [if_neg hi]
    simp only [List.getElem?_map]
    by_cases hp : i < n
    · simp [List.getElem?_range hp, h i (fun e => hi e.symm)]
    · simp [List.getElem?_eq_none, hp]
end Go.Proofs.Ytndlglkokbchbaa.split
