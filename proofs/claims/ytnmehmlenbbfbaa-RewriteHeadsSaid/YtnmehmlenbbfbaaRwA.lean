/-
  Paths, byte by byte.
-/
import Derived.Test.YtnmehmlenbbfbaaMaA
namespace Go.Proofs.Ytnmehmlenbbfbaa.mat
open Go.ChangeShapes Go.WideShapes Go.ChangeAt Go.RowKit
open Go.Proofs.Ytnmehmlenbbfbaa.heads
set_option linter.unusedVariables false
set_option linter.unusedSimpArgs false

/-- One byte more: the byte ahead, or nothing where it may not stand. -/
def stp (p : Option Int) (c : UInt8) : Option Int := match p with
  | none => none
  | some q => if (c.toNat = 47 ∧ q = 47) ∨ (¬ c.toNat = 47 ∧ signF c.toNat = false) then none else some c.toNat
def runL (p : Option Int) (l : List UInt8) : Option Int := l.foldl stp p
theorem run_none (l : List UInt8) : runL none l = none := by
  unfold runL
  induction l with
  | nil => rfl
  | cons c l ih => exact ih
theorem run_app (p : Option Int) (a b : List UInt8) : runL p (a ++ b) = runL (runL p a) b := List.foldl_append ..
theorem bad_stp (s : ByteArray) (k : Nat) (h : k < s.size) : stp (some (ahd s k)) (s.data.toList[k]'(by rw [Array.length_toList]; exact h)) = if badB s k = true then none else some (byteAt s k) := by
  have hb := Go.Proofs.Ytnmehmlenbbfbaa.heads.byte_at s k h
  have hg : s.data.toList[k]'(by rw [Array.length_toList]; exact h) = s[k]'h := by simp; rfl
  rw [hg]
  unfold stp badB
  simp only
  have hn : (((s[k]'h).toNat : Nat) : Int) = byteAt s k := hb
  by_cases h47 : byteAt s k = 47
  · have h47n : (s[k]'h).toNat = 47 := by omega
    rw [decide_eq_true h47, h47n]
    by_cases ha : ahd s k = 47
    · rw [decide_eq_true ha, if_pos (Or.inl ⟨rfl, ha⟩)]; rfl
    · rw [decide_eq_false ha, if_neg (by rintro (h | h); exact ha h.2; exact h.1 rfl), h47]; rfl
  · have h47n : ¬ (s[k]'h).toNat = 47 := by omega
    rw [decide_eq_false h47, hn]
    cases hs : signF (byteAt s k) with
    | false => rw [if_pos (Or.inr ⟨h47n, rfl⟩)]; rfl
    | true => rw [if_neg (by rintro (h | h); exact h47n h.1; cases h.2)]; rfl
theorem run_take (s : ByteArray) : ∀ k, k ≤ s.size → runL (some 0) (s.data.toList.take k) = if goodB s k = true then some (ahd s k) else none
  | 0, _ => by simp [runL, goodB, ahd]
  | k + 1, h => by
    have hl : k < s.data.toList.length := by rw [Array.length_toList]; exact h
    rw [List.take_succ_eq_append_getElem hl, run_app, run_take s k (by omega)]
    by_cases hg : goodB s k = true
    · rw [if_pos hg]
      have hb := bad_stp s k h
      show stp (some (ahd s k)) _ = _
      rw [hb, goodB, hg, ahd_next]
      cases badB s k <;> rfl
    · rw [if_neg hg, goodB]
      simp only [Bool.not_eq_true] at hg
      rw [hg, run_none]
      rfl
def runS (s : ByteArray) : Option Int := runL (some 0) s.data.toList
theorem run_all (s : ByteArray) : runS s = if goodB s s.size = true then some (ahd s s.size) else none := by
  have h := run_take s s.size (Nat.le_refl _)
  rw [List.take_of_length_le (by rw [Array.length_toList]; exact Nat.le_refl _)] at h
  exact h
/-- A path with parts. -/
def Deep (s : ByteArray) : Prop := 2 ≤ s.size ∧ byteAt s 0 = 47 ∧ ∃ q, runS s = some q ∧ q ≠ 47
theorem deep_path {s : ByteArray} (h : Deep s) (h60 : s.size ≤ 60) : pathF s = true := by
  obtain ⟨h2, h0, q, hr, hq⟩ := h
  have hsl : s ≠ sl := fun e => by rw [e] at h2; exact absurd h2 (by decide)
  rw [path_rest (by omega) h60 h0 hsl]
  rw [run_all] at hr
  split at hr
  · rename_i hg
    simp only [Option.some.injEq] at hr
    rw [hg, hr, decide_eq_false hq]; rfl
  · cases hr
theorem path_deep {s : ByteArray} (h : pathF s = true) (hs : s ≠ sl) : Deep s ∧ s.size ≤ 60 := by
  unfold pathF at h
  rw [decide_eq_false hs, Bool.false_or, Bool.and_eq_true, Bool.and_eq_true, Bool.not_eq_true'] at h
  obtain ⟨h1, h2, h3⟩ := h
  obtain ⟨h4, h5, h6⟩ := of_decide_eq_true h1
  have h7 := of_decide_eq_false h3
  refine ⟨⟨?_, h6, ahd s s.size, by rw [run_all, if_pos h2], h7⟩, h5⟩
  by_cases h8 : s.size = 1
  · exfalso
    apply h7
    rw [h8, ahd_next]
    exact h6
  · omega
theorem deep_app {s : ByteArray} {l : List UInt8} {t : ByteArray} {q : Int} (hs : s = ⟨#[]⟩ ∨ Deep s) (ht : t.data.toList = s.data.toList ++ 47 :: l) (hl : l ≠ []) (hr : runL (some 47) l = some q) (hq : q ≠ 47) : Deep t := by
  have hlen : t.size = s.size + (l.length + 1) := by
    have : t.data.toList.length = s.data.toList.length + (l.length + 1) := by rw [ht, List.length_append]; rfl
    rw [Array.length_toList, Array.length_toList] at this
    exact this
  have hl1 : 1 ≤ l.length := by
    rcases l with _ | ⟨a, l⟩
    · exact absurd rfl hl
    · simp
  have hrun : runS t = some q := by
    unfold runS
    rw [ht, run_app]
    rcases hs with rfl | ⟨-, -, p, hp, hp7⟩
    · exact hr
    · show runL (runS s) _ = _
      rw [hp]
      show runL (stp (some p) 47) l = _
      have : stp (some p) 47 = some 47 := by
        unfold stp
        simp only
        rw [if_neg (by rintro (h | h); exact hp7 h.2; exact h.1 rfl)]
        rfl
      rw [this]
      exact hr
  refine ⟨by omega, ?_, q, hrun, hq⟩
  have hb : ∀ u : ByteArray, byteAt u 0 = ((u.data.toList.getD 0 0).toNat : Int) := fun u => by
    unfold byteAt
    rw [List.getD_eq_getElem?_getD, Array.getD_eq_getD_getElem?]
    simp
  rw [hb, ht]
  rcases hs with rfl | ⟨h2, h0, -⟩
  · rfl
  · have hne : 0 < s.data.toList.length := by rw [Array.length_toList]; exact Nat.lt_of_lt_of_le (by omega) h2
    rw [hb] at h0
    rw [List.getD_eq_getElem?_getD, List.getElem?_append_left hne, ← List.getD_eq_getElem?_getD]
    exact h0
end Go.Proofs.Ytnmehmlenbbfbaa.mat
