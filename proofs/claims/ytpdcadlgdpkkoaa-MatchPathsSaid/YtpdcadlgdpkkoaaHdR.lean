/-
  Package heads: an argument that is a slice of heads, however many and however long their texts.
-/
import Derived.Test.YtpdcadlgdpkkoaaHdC
import Derived.Deep.SlicePairs
namespace Go.Proofs.Ytpdcadlgdpkkoaa.heads
open Go.ChangeShapes Go.WideShapes Go.ChangeAt Go.RowKit
set_option linter.unusedVariables false
set_option linter.unusedSimpArgs false

theorem cellsH : Try.prog.cellsOf 42 = 2 := by kernel_rfl
theorem cellsS1 : Try.prog.cellsOf 9 = 1 := by kernel_rfl
def txtV : Value → ByteArray | .string k => k | _ => ByteArray.empty
def Long (R : List Hd) : Prop := ∀ x ∈ R, x.n.size ≤ 9223372036854775807 ∧ x.v.size ≤ 9223372036854775807
/-- A slice of heads that is read only. -/
def RawAt (w : World) (v : Value) (R : List Hd) : Prop := ∃ a b o cap, v = .slice a R.length cap ∧ R.length ≤ maxLen ∧ ∀ i, i < R.length → a = some ⟨b, o, none⟩ ∧ b < w.heap.size ∧ w.cell? ⟨b, o + i * 2, none⟩ = some (S (R.getD i h0).n) ∧ w.cell? ⟨b, o + (i * 2 + 1), none⟩ = some (S (R.getD i h0).v)
theorem RawAt.bl {w w' : World} {v : Value} {R : List Hd} (h : RawAt w v R) (hb : Bl w w') : RawAt w' v R := by
  obtain ⟨a, b, o, cap, h1, h2, h3⟩ := h
  refine ⟨a, b, o, cap, h1, h2, fun i hi => ?_⟩
  obtain ⟨e, hl, c0, c1⟩ := h3 i hi
  exact ⟨e, Nat.lt_of_lt_of_le hl hb.size, (hb.cell (p := ⟨b, _, none⟩) hl).trans c0, (hb.cell (p := ⟨b, _, none⟩) hl).trans c1⟩
theorem open_heads {H : Type} {enc : TypeId × Value → H} {W : World} {base : Nat} {v : Value} {d : DataW H} {p : List MemPlace}
    (hlt : ∀ x ∈ p, x.block < W.heap.size) (hv : Value.okWide Try.prog W .any base 22 v) (h : DataW.Trod enc Try.prog W 0 (fun _ => true) true 22 v d p) :
    ∃ R : List Hd, RawAt W v R ∧ Long R := by
  obtain ⟨a0, len, cap, rfl⟩ := okWide_slice Try.underlying22 hv
  obtain ⟨fuel, hf⟩ := h
  rcases Deep.open_slice_pairs Try.underlying22 Try.underlying42 cellsH rfl rfl cellsS1 cellsS1 hf with ⟨hcs, hx⟩ | ⟨a, len', cap', m, n, V0, V1, D0, D1, P0, P1, hcs, -, hl, hm, hmm, hx, hall⟩
  · simp [Value.cells] at hcs
    obtain ⟨rfl, rfl, rfl⟩ := hcs
    exact ⟨[], ⟨none, 0, 0, 0, rfl, by simp, fun i h => by simp at h⟩, fun x hx => by simp at hx⟩
  · simp [Value.cells] at hcs
    obtain ⟨rfl, rfl, rfl⟩ := hcs
    simp only [if_true] at hmm
    subst hmm
    have hint : ∀ i, i < m → ((V0 i = S (txtV (V0 i)) ∧ V1 i = S (txtV (V1 i))) ∧ (txtV (V0 i)).size ≤ 9223372036854775807 ∧ (txtV (V1 i)).size ≤ 9223372036854775807) := fun i hi => by
      obtain ⟨-, -, t0, t1⟩ := hall i hi
      obtain ⟨k0, e0, -, w0⟩ := DataW.trod_string Try.underlying9 t0
      obtain ⟨k1, e1, -, w1⟩ := DataW.trod_string Try.underlying9 t1
      simp only [List.cons.injEq, and_true] at e0 e1
      rw [e0, e1]
      exact ⟨⟨rfl, rfl⟩, w0, w1⟩
    let f : Nat → Hd := fun i => ⟨txtV (V0 i), txtV (V1 i)⟩
    have hlen : ((List.range len).map f).length = len := by simp
    obtain ⟨b, off, spot⟩ := a
    refine ⟨(List.range len).map f, ⟨some ⟨b, off, spot⟩, b, off, m, by rw [hlen], by rw [hlen]; omega, fun i hi => ?_⟩, fun x hx => ?_⟩
    · rw [hlen] at hi
      obtain ⟨c0, c1, -, -⟩ := hall i (by omega)
      obtain ⟨⟨e0, e1⟩, -⟩ := hint i (by omega)
      have hc0 := (hall 0 (by omega)).1
      have hspot : spot = none := by simpa [Addr.add] using World.cell?_spot hc0
      subst hspot
      rw [add_plain] at c0 c1
      have hbl : b < W.heap.size := World.block_lt_of_cell? W ⟨b, _, none⟩ c0
      have hg : ((List.range len).map f).getD i h0 = f i := by simp [List.getD, hi]
      rw [hg]
      exact ⟨rfl, hbl, by rw [c0, e0], by rw [c1, e1]⟩
    · obtain ⟨i, hi, rfl⟩ := List.mem_map.1 hx
      exact (hint i (by have := List.mem_range.1 hi; omega)).2
end Go.Proofs.Ytpdcadlgdpkkoaa.heads
