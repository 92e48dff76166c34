/-
  Package cert: whether two certificates are the same; what is given out, and when it is wrong.
-/
import Derived.Test.YtajnhjcinpdfhaaCrH
namespace Go.Proofs.Ytajnhjcinpdfhaa.cert
open Go.ChangeShapes Go.WideShapes Go.ChangeAt Go.RowKit
set_option linter.unusedVariables false
set_option linter.unusedSimpArgs false

theorem eq_crt (a b c d e a' b' c' d' e' : Int) (w : World) : (Op.equalIn 10000 24 (.agg #[.int .i64 a, .int .i64 b, .int .i64 c, .int .i64 d, .int .i64 e]) (.agg #[.int .i64 a', .int .i64 b', .int .i64 c', .int .i64 d', .int .i64 e'])).run Try.prog w = .ok (a == a' && (b == b' && (c == c' && (d == d' && e == e')))) w := by
  by_cases h1 : a = a'
  · subst h1
    by_cases h2 : b = b'
    · subst h2
      by_cases h3 : c = c'
      · subst h3
        by_cases h4 : d = d'
        · subst h4
          by_cases h5 : e = e'
          · subst h5
            go_simp
          · have hh := beq_eq_false_iff_ne.2 h5
            go_simp
        · have hh := beq_eq_false_iff_ne.2 h4
          go_simp
      · have hh := beq_eq_false_iff_ne.2 h3
        go_simp
    · have hh := beq_eq_false_iff_ne.2 h2
      go_simp
  · have hh := beq_eq_false_iff_ne.2 h1
    go_simp
theorem crt_beq (x y : Crt) : (x.s == y.s && (x.r == y.r && (x.v == y.v && (x.f == y.f && x.t == y.t)))) = decide (x = y) := by
  obtain ⟨a, b, c, d, e⟩ := x
  obtain ⟨a', b', c', d', e'⟩ := y
  simp only [Crt.mk.injEq]
  by_cases h1 : a = a' <;> by_cases h2 : b = b' <;> by_cases h3 : c = c' <;> by_cases h4 : d = d' <;> by_cases h5 : e = e' <;> simp [h1, h2, h3, h4, h5]

structure OkPS (s : PS) : Prop where
  g : ∀ i, i < s.G.length → (s.G.getD i c0).s = (i : Int) + 1 ∧ 1 ≤ (s.G.getD i c0).r ∧ (s.G.getD i c0).r ≤ (s.U.length : Int) + 1
  r : ∀ i j, i ≤ j → j < s.G.length → (s.G.getD i c0).r ≤ (s.G.getD j c0).r
  rv : ∀ x ∈ s.S, 1 ≤ x ∧ x ≤ s.G.length
  tm : 0 ≤ s.t ∧ s.t ≤ 200
theorem getD_app_l {α : Type} (l m : List α) (i : Nat) (d : α) (h : i < l.length) : (l ++ m).getD i d = l.getD i d := by
  rw [List.getD_eq_getElem?_getD, List.getD_eq_getElem?_getD, List.getElem?_append_left h]
theorem getD_app_r {α : Type} (l : List α) (x d : α) : (l ++ [x]).getD l.length d = x := by
  rw [List.getD_eq_getElem?_getD, List.getElem?_append_right (Nat.le_refl _)]; simp
theorem OkPS.step {s : PS} {a : Ac} (h : OkPS s) (ha : okA a) : OkPS (pstep s a) := by
  obtain ⟨U, G, S, t⟩ := s
  obtain ⟨h1, h2, h3, h4⟩ := h
  simp only at h1 h2 h3 h4
  unfold pstep
  split
  · refine ⟨fun i hi => ?_, fun i j hij hj => ?_, fun x hx => ?_, ha.2.1⟩
    · simp only [List.length_append, List.length_cons, List.length_nil] at hi
      by_cases hl : i < G.length
      · rw [getD_app_l _ _ _ _ hl]; exact h1 i hl
      · obtain rfl : i = G.length := by omega
        rw [getD_app_r]
        exact ⟨rfl, by show (1 : Int) ≤ (U.length : Int) + 1; omega, Int.le_refl _⟩
    · simp only [List.length_append, List.length_cons, List.length_nil] at hj
      by_cases hl : j < G.length
      · have hl3 : i < G.length := by omega
        rw [getD_app_l _ _ _ _ hl, getD_app_l _ _ _ _ hl3]; exact h2 i j hij hl
      · obtain rfl : j = G.length := by omega
        rw [getD_app_r]
        by_cases hl2 : i < G.length
        · rw [getD_app_l _ _ _ _ hl2]; exact (h1 i hl2).2.2
        · obtain rfl : i = G.length := by omega
          rw [getD_app_r]; simp
    · have := h3 x hx
      simp only [List.length_append, List.length_cons, List.length_nil]; omega
  · split
    · refine ⟨fun i hi => ?_, h2, h3, ha.2.1⟩
      have := h1 i hi
      simp only [List.length_append, List.length_map, List.length_cons, List.length_nil]; omega
    · refine ⟨h1, h2, fun x hx => ?_, ha.2.1⟩
      simp only at hx ⊢
      split at hx
      · rename_i hc
        rcases List.mem_cons.1 hx with rfl | hx
        · omega
        · exact h3 x hx
      · exact h3 x hx
theorem okPS (A : List Ac) (hA : ∀ x ∈ A, okA x) : ∀ k, k ≤ A.length → OkPS (playTo A k)
  | 0, _ => ⟨fun i hi => by simp [playTo] at hi, fun i j _ hj => by simp [playTo] at hj, fun x hx => by simp [playTo] at hx, by simp [playTo]⟩
  | k + 1, h => (okPS A hA k (by omega)).step (hA _ (getD_mem A k a0 (by omega)))
theorem gv_mem {G : List Crt} {c : Crt} (h : gvB G c = true) : c ∈ G := by
  unfold gvB at h
  simp only [Bool.and_eq_true, decide_eq_true_eq] at h
  rw [← h.2]
  exact getD_mem G _ c0 (by omega)
theorem mem_gv {s : PS} (h : OkPS s) (hG : s.G.length ≤ 16) (hU : s.U.length ≤ 16) {c : Crt} (hc : c ∈ s.G) : gvB s.G c = true ∧ okCrt c := by
  obtain ⟨i, hi, he⟩ := List.mem_iff_getElem.1 hc
  have h1 := h.g i hi
  have h2 : s.G.getD i c0 = c := by rw [List.getD_eq_getElem?_getD, List.getElem?_eq_getElem hi]; exact he
  rw [h2] at h1
  unfold gvB
  simp only [Bool.and_eq_true, decide_eq_true_eq]
  refine ⟨⟨by omega, ?_⟩, ?_⟩
  · rw [h1.1, show ((i : Int) + 1 - 1).toNat = i by omega]; exact h2
  · unfold okCrt; omega
theorem chk_not {U G S c v now} (h : c ∉ G) : chkE U G S c v now = 20 := by
  unfold chkE
  rw [if_pos]
  cases hg : gvB G c with
  | false => rfl
  | true => exact absurd (gv_mem hg) h
theorem mem_take_succ (G : List Crt) (c : Crt) (k : Nat) (hk : k < G.length) : decide (c ∈ G.take (k + 1)) = (decide (c ∈ G.take k) || decide (G.getD k c0 = c)) := by
  rw [take_snoc G k c0 hk]
  by_cases h1 : c ∈ G.take k
  · simp [h1]
  · by_cases h2 : G.getD k c0 = c
    · simp only [h2, decide_true, Bool.or_true, decide_eq_true_eq, List.mem_append, List.mem_singleton, or_true]
    · have h3 : c ∉ G.take k ++ [G.getD k c0] := by
        rw [List.mem_append, List.mem_singleton]; rintro (h | h)
        · exact h1 h
        · exact h2 h.symm
      rw [decide_eq_false h1, decide_eq_false h2, decide_eq_false h3]; rfl
theorem wrap_range (n : Int) : -9223372036854775808 ≤ IntKind.i64.wrap n ∧ IntKind.i64.wrap n ≤ 9223372036854775807 := by
  rw [IntKind.wrap_i64]; omega
end Go.Proofs.Ytajnhjcinpdfhaa.cert
