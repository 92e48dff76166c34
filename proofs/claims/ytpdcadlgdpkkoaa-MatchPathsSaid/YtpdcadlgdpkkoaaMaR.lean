/-
  Package match: the first so many of an argument's heads.
-/
import Derived.Test.YtpdcadlgdpkkoaaHdR
import Derived.Test.YtpdcadlgdpkkoaaHdD0
namespace Go.Proofs.Ytpdcadlgdpkkoaa.mat
open Go.ChangeShapes Go.WideShapes Go.ChangeAt Go.RowKit
open Go.Proofs.Ytpdcadlgdpkkoaa.heads
set_option linter.unusedVariables false
set_option linter.unusedSimpArgs false

/-- A slice has room for what it holds; without a row it has none. -/
def NoRow (v : Value) : Prop := ∀ a n c, v = .slice a n c → n ≤ c ∧ (a = none → n = 0 ∧ c = 0)
theorem open_heads2 {H : Type} {enc : TypeId × Value → H} {W : World} {base : Nat} {v : Value} {d : DataW H} {p : List MemPlace}
    (hlt : ∀ x ∈ p, x.block < W.heap.size) (hv : Value.okWide Try.prog W .any base 22 v) (h : DataW.Trod enc Try.prog W 0 (fun _ => true) true 22 v d p) :
    ∃ R : List Hd, (RawAt W v R ∧ NoRow v) ∧ Long R := by
  obtain ⟨R, hR, hL⟩ := open_heads hlt hv h
  refine ⟨R, ⟨hR, ?_⟩, hL⟩
  obtain ⟨a0, len, cap, rfl⟩ := okWide_slice Try.underlying22 hv
  obtain ⟨fuel, hf⟩ := h
  rcases Deep.open_slice_pairs Try.underlying22 Try.underlying42 cellsH rfl rfl cellsS1 cellsS1 hf with ⟨hcs, hx⟩ | ⟨a, len', cap', m, n, V0, V1, D0, D1, P0, P1, hcs, -, hl, hm, hmm, hx, hall⟩
  · simp [Value.cells] at hcs
    obtain ⟨rfl, rfl, rfl⟩ := hcs
    intro a n c e
    simp only [Value.slice.injEq] at e
    obtain ⟨rfl, rfl, rfl⟩ := e
    exact ⟨Nat.le_refl _, fun _ => ⟨rfl, rfl⟩⟩
  · simp [Value.cells] at hcs
    obtain ⟨rfl, rfl, rfl⟩ := hcs
    intro a n c e
    simp only [Value.slice.injEq] at e
    obtain ⟨rfl, rfl, rfl⟩ := e
    exact ⟨by omega, fun h => by cases h⟩
theorem flat_at (A : List Hd) : ∀ (j : Nat) (x : Value), (flatB hB A)[j]? = some x → j / 2 < A.length ∧ (j % 2 = 0 → x = S (A.getD (j / 2) h0).n) ∧ (j % 2 = 1 → x = S (A.getD (j / 2) h0).v) := by
  induction A with
  | nil => intro j x h; simp [flatB] at h
  | cons a A ih =>
    intro j x h
    match j, h with
    | 0, h => 
      have : x = S a.n := by simpa [flatB] using h.symm
      exact ⟨by simp, fun _ => this, fun h => by omega⟩
    | 1, h =>
      have : x = S a.v := by simpa [flatB] using h.symm
      exact ⟨by simp, fun h => by omega, fun _ => this⟩
    | j + 2, h =>
      have h' : (flatB hB A)[j]? = some x := by simpa [flatB] using h
      obtain ⟨i1, i2, i3⟩ := ih j x h'
      rw [show (j + 2) / 2 = j / 2 + 1 by omega, show (j + 2) % 2 = j % 2 by omega]
      exact ⟨by simp; omega, fun h => by rw [i2 h]; simp, fun h => by rw [i3 h]; simp⟩
theorem raw_feed {w : World} {a : Option Addr} {n cap : Nat} {R : List Hd} (h : RawAt w (.slice a n cap) R) (hn : NoRow (.slice a n cap)) (j : Nat) (hj : j ≤ R.length) : Feed w (.slice a j cap) j 2 (flatB hB (R.take j)) := by
  obtain ⟨a', b, o, cap', e, hm, hc⟩ := h
  simp only [Value.slice.injEq] at e
  obtain ⟨rfl, rfl, rfl⟩ := e
  cases a with
  | none =>
    obtain ⟨h1, h2⟩ := (hn _ _ _ rfl).2 rfl
    have : j = 0 := by omega
    subst this
    subst h2
    exact Or.inl ⟨rfl, rfl, by simp [flatB]⟩
  | some ad =>
    refine Or.inr ⟨ad, cap, rfl, by rw [flatB_len hB_len, List.length_take, Nat.min_eq_left hj], fun k x hk => ?_⟩
    obtain ⟨k1, k2, k3⟩ := flat_at _ k x hk
    rw [List.length_take] at k1
    obtain ⟨ea, hl, c0, c1⟩ := hc (k / 2) (by omega)
    cases ea
    rw [add_plain]
    have hg : (R.take j).getD (k / 2) h0 = R.getD (k / 2) h0 := by
      rw [List.getD_eq_getElem?_getD, List.getD_eq_getElem?_getD, List.getElem?_take_of_lt (by omega)]
    rw [hg] at k2 k3
    by_cases h2 : k % 2 = 0
    · rw [k2 h2, ← c0, show k / 2 * 2 = k by omega]
    · rw [k3 (by omega), ← c1, show k / 2 * 2 + 1 = k by omega]
theorem NoRow.fit {R : List Hd} (h : Long R) (j : Nat) : Fit (R.take j) := fun x hx => h x (List.mem_of_mem_take hx)
end Go.Proofs.Ytpdcadlgdpkkoaa.mat
