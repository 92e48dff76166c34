/-
  Package match: paths, as texts.
-/
import Derived.Test.YtnmehmlenbbfbaaHdA
import Derived.Laws.RangeString
import Derived.Laws.RangeAny
import Derived.Lib.TrimU
namespace Go.Proofs.Ytnmehmlenbbfbaa.mat
open Go.ChangeShapes Go.WideShapes Go.ChangeAt Go.RowKit
open Go.Proofs.Ytnmehmlenbbfbaa.heads
set_option linter.unusedVariables false
set_option linter.unusedSimpArgs false

def signF (c : Int) : Bool := decide ((97 ≤ c ∧ c ≤ 122) ∨ (48 ≤ c ∧ c ≤ 57) ∨ c = 45 ∨ c = 95 ∨ c = 46)
/-- The byte ahead of place k. -/
def ahd (s : ByteArray) (k : Nat) : Int := if k = 0 then 0 else byteAt s (k - 1)
def badB (s : ByteArray) (k : Nat) : Bool := (decide (byteAt s k = 47) && decide (ahd s k = 47)) || (!(decide (byteAt s k = 47)) && !(signF (byteAt s k)))
def goodB (s : ByteArray) : Nat → Bool
  | 0 => true
  | k + 1 => goodB s k && !(badB s k)
abbrev sl : ByteArray := ⟨#[47]⟩
def pathF (s : ByteArray) : Bool := decide (1 ≤ s.size ∧ s.size ≤ 60 ∧ byteAt s 0 = 47) && (decide (s = sl) || (goodB s s.size && !(decide (ahd s s.size = 47))))
theorem good_no {s : ByteArray} : ∀ {k n : Nat}, k < n → badB s k = true → goodB s n = false
  | k, 0, h, _ => absurd h (Nat.not_lt_zero _)
  | k, n + 1, h, hb => by
    by_cases hk : k = n
    · subst hk; rw [goodB, hb]; simp
    · rw [goodB, good_no (by omega) hb]; rfl
theorem good_next {s : ByteArray} {k : Nat} (h : goodB s k = true) (hb : badB s k = false) : goodB s (k + 1) = true := by rw [goodB, h, hb]; rfl
theorem byte_lo (s : ByteArray) (k : Nat) : 0 ≤ byteAt s k := by unfold byteAt; omega
theorem byte_hi (s : ByteArray) (k : Nat) : byteAt s k < 256 := by
  unfold byteAt
  have := (s.data.getD k 0).toNat_lt
  omega
theorem ahd_lo (s : ByteArray) (k : Nat) : 0 ≤ ahd s k ∧ ahd s k < 256 := by
  unfold ahd
  split
  · omega
  · exact ⟨byte_lo _ _, byte_hi _ _⟩
theorem ahd_next (s : ByteArray) (k : Nat) : ahd s (k + 1) = byteAt s k := by
  unfold ahd
  rw [if_neg (by omega), Nat.add_sub_cancel]
/-- What a range over a text tells at a place: its byte, or something that is no sign. -/
theorem dec_at (s : ByteArray) (k : Nat) (h : k < s.size) : (byteAt s k < 128 ∧ Utf8.decode s k = ((byteAt s k).toNat, 1)) ∨ (128 ≤ byteAt s k ∧ 128 ≤ (Utf8.decode s k).1 ∧ (Utf8.decode s k).1 ≤ 1114111) := by
  have hb := byte_at s k h
  by_cases hh : (s[k]'h).toNat < 128
  · refine Or.inl ⟨by omega, ?_⟩
    rw [decode_ascii s k h hh, ← hb]
    rfl
  · refine Or.inr ⟨by omega, (decode_high s k h (by omega)).1, Lib.rune_le s k⟩
theorem bad_high {s : ByteArray} {k : Nat} (h : 128 ≤ byteAt s k) : badB s k = true := by
  unfold badB
  rw [show decide (byteAt s k = 47) = false from decide_eq_false (by omega), show signF (byteAt s k) = false from decide_eq_false (by omega)]
  rfl
theorem path_long {s : ByteArray} (h : ¬ (1 ≤ s.size ∧ s.size ≤ 60)) : pathF s = false := by
  unfold pathF
  rw [decide_eq_false (fun hh => h ⟨hh.1, hh.2.1⟩), Bool.false_and]
theorem path_first {s : ByteArray} (h : byteAt s 0 ≠ 47) : pathF s = false := by
  unfold pathF
  rw [decide_eq_false (fun hh => h hh.2.2), Bool.false_and]
theorem path_sl : pathF sl = true := by decide
theorem path_rest {s : ByteArray} (h1 : 1 ≤ s.size) (h2 : s.size ≤ 60) (h3 : byteAt s 0 = 47) (h4 : s ≠ sl) : pathF s = (goodB s s.size && !(decide (ahd s s.size = 47))) := by
  unfold pathF
  rw [decide_eq_true ⟨h1, h2, h3⟩, decide_eq_false h4]
  rfl
/-- How many parts the first so many bytes have begun. -/
def cntB (s : ByteArray) : Nat → Nat
  | 0 => 0
  | k + 1 => cntB s k + if byteAt s k = 47 then 1 else 0
theorem cnt_le (s : ByteArray) : ∀ k, cntB s k ≤ k
  | 0 => Nat.le_refl _
  | k + 1 => by
    have := cnt_le s k
    rw [cntB]
    split <;> omega
theorem cnt_take (s : ByteArray) : ∀ k, k ≤ s.size → (s.data.toList.take k).count 47 = cntB s k
  | 0, _ => rfl
  | k + 1, h => by
    have hl : k < s.data.toList.length := by rw [Array.length_toList]; exact h
    rw [List.take_succ_eq_append_getElem hl, List.count_append, cnt_take s k (by omega), cntB]
    congr 1
    have hb := byte_at s k h
    have hg : s.data.toList[k] = s[k]'h := by simp; rfl
    rw [hg]
    by_cases h47 : (s[k]'h) = 47
    · rw [h47, if_pos (by rw [← hb, h47]; rfl)]; rfl
    · rw [if_neg (fun hh => h47 (UInt8.toNat_inj.1 (by rw [hh] at hb; have : (47 : UInt8).toNat = 47 := rfl; omega)))]
      rw [List.count_singleton, if_neg (by simpa using h47)]
theorem cnt_all (s : ByteArray) : s.data.toList.count 47 = cntB s s.size := by
  rw [← cnt_take s s.size (Nat.le_refl _), List.take_of_length_le (by rw [Array.length_toList]; exact Nat.le_refl _)]
/-- How many parts a path has. -/
def partsN (s : ByteArray) : Nat := if s = sl then 0 else cntB s s.size
end Go.Proofs.Ytnmehmlenbbfbaa.mat
