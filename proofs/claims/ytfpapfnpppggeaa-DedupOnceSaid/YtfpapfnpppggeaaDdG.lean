/-
  Package dedup: what a table that forgets tells is what one tells that forgets nothing.
-/
import Derived.Test.YtfpapfnpppggeaaDdE
namespace Go.Proofs.Ytfpapfnpppggeaa.dedup
open Go.ChangeShapes Go.WideShapes Go.ChangeAt Go.RowKit
set_option linter.unusedVariables false
set_option linter.unusedSimpArgs false

theorem leftR_cons (h t : Int) (e : En) (R : List En) : leftR h t (e :: R) = if e.a + h ≤ t then leftR h t R else e :: R := by
  unfold leftR
  by_cases hc : e.a + h ≤ t <;> simp [List.dropWhile, hc]
theorem remB_cons (h t : Int) (e : En) (R : List En) (key : ByteArray) (he : e.a + h ≤ t) : remB h t (e :: R) key = remB h t R key := by
  unfold remB
  conv => lhs; unfold lastF
  cases hl : lastF R key with
  | some a => rfl
  | none =>
    by_cases hk : e.k = key
    · simp only [if_pos hk]
      exact decide_eq_false (by omega)
    · simp only [if_neg hk]
theorem remB_left {h s t : Int} (hst : s ≤ t) (key : ByteArray) : ∀ R, remB h t (leftR h s R) key = remB h t R key
  | [] => rfl
  | e :: R => by
    rw [leftR_cons]
    split
    · rw [remB_left hst key R, remB_cons _ _ _ _ _ (by omega)]
    · rfl
theorem left_left {h s t : Int} (hst : s ≤ t) : ∀ R, leftR h t (leftR h s R) = leftR h t R
  | [] => rfl
  | e :: R => by
    rw [leftR_cons h s]
    split
    · rw [left_left hst R, leftR_cons, if_pos (by omega)]
    · rfl
theorem left_app {h s t : Int} (hst : s ≤ t) (x : En) : ∀ R, leftR h t (leftR h s R ++ [x]) = leftR h t (R ++ [x])
  | [] => rfl
  | e :: R => by
    rw [leftR_cons h s]
    split
    · rw [left_app hst x R, List.cons_append, leftR_cons, if_pos (by omega)]
    · rfl
/-- A table that has forgotten is told a key: as if it had not. -/
theorem left_put {h s t : Int} (hst : s ≤ t) (R : List En) (key : ByteArray) : leftR h t (putR h t (leftR h s R) key) = leftR h t (putR h t R key) := by
  unfold putR
  rw [remB_left hst]
  split
  · exact left_left hst R
  · exact left_app hst _ R
/-- Of what rises, what is left is what is not let go. -/
theorem left_alive {h t : Int} : ∀ {R : List En}, R.Pairwise (fun x y => x.a ≤ y.a ∧ (x.k = y.k → x.a + h ≤ y.a)) → ∀ x ∈ leftR h t R, t < x.a + h
  | [], _, x, hx => by simp [leftR] at hx
  | e :: R, hp, x, hx => by
    obtain ⟨h1, h2⟩ := List.pairwise_cons.1 hp
    rw [leftR_cons] at hx
    split at hx
    · exact left_alive h2 x hx
    · rcases List.mem_cons.1 hx with rfl | hx
      · omega
      · have := (h1 x hx).1; omega
theorem cnt_len {h t : Int} : ∀ {R : List En}, R.Pairwise (fun x y => x.a ≤ y.a ∧ (x.k = y.k → x.a + h ≤ y.a)) → (∀ x ∈ R, x.a ≤ t) → (∀ x ∈ R, t < x.a + h) → cntK R = R.length
  | [], _, _, _ => rfl
  | e :: R, hp, hn, ha => by
    obtain ⟨h1, h2⟩ := List.pairwise_cons.1 hp
    unfold cntK
    rw [if_neg, cnt_len h2 (fun x hx => hn x (List.mem_cons_of_mem _ hx)) (fun x hx => ha x (List.mem_cons_of_mem _ hx)), List.length_cons]
    intro hs
    obtain ⟨a, hl⟩ := Option.isSome_iff_exists.1 hs
    obtain ⟨y, hy, hk, -⟩ := lastF_mem R _ _ hl
    have q1 := (h1 y hy).2 hk.symm
    have q2 := hn y (List.mem_cons_of_mem _ hy)
    have q3 := ha e (List.mem_cons_self ..)
    omega
/-- How many are remembered: those that are not let go. -/
theorem left_count {h t : Int} : ∀ {R : List En}, R.Pairwise (fun x y => x.a ≤ y.a ∧ (x.k = y.k → x.a + h ≤ y.a)) → (leftR h t R).length = R.countP (fun x => decide (t < x.a + h))
  | [], _ => rfl
  | e :: R, hp => by
    obtain ⟨h1, h2⟩ := List.pairwise_cons.1 hp
    rw [leftR_cons, List.countP_cons]
    split
    · rename_i hc
      rw [left_count h2, if_neg (by simp; omega)]
      rfl
    · rename_i hc
      rw [if_pos (by simp; omega), List.length_cons]
      congr 1
      symm
      rw [List.countP_eq_length]
      intro x hx
      have := (h1 x hx).1
      exact decide_eq_true (by omega)
/-- Is there one of the key in whose horizon it is? -/
theorem rem_any {h t : Int} {R : List En} (hp : R.Pairwise (fun x y => x.a ≤ y.a ∧ (x.k = y.k → x.a + h ≤ y.a))) (hn : ∀ x ∈ R, x.a ≤ t) (key : ByteArray) :
    remB h t R key = R.any (fun x => decide (x.k = key) && (decide (x.a ≤ t) && decide (t < x.a + h))) := by
  unfold remB
  cases hl : lastF R key with
  | some a =>
    obtain ⟨y, hy, hk, ha⟩ := lastF_mem R _ _ hl
    show decide (t < a + h) = _
    by_cases hc : t < a + h
    · rw [decide_eq_true hc]
      symm
      rw [List.any_eq_true]
      exact ⟨y, hy, by simp [hk, hn y hy]; omega⟩
    · rw [decide_eq_false hc]
      symm
      rw [List.any_eq_false]
      intro x hx
      simp only [Bool.and_eq_true, decide_eq_true_eq, not_and]
      rintro hk2 -
      obtain ⟨b, hb, hle⟩ := lastF_ge hp x hx
      rw [hk2, hl] at hb
      cases hb
      omega
  | none =>
    show false = _
    symm
    rw [List.any_eq_false]
    intro x hx
    simp only [Bool.and_eq_true, decide_eq_true_eq, not_and]
    intro hk2
    obtain ⟨b, hb, -⟩ := lastF_ge hp x hx
    rw [hk2, hl] at hb
    cases hb
end Go.Proofs.Ytfpapfnpppggeaa.dedup
