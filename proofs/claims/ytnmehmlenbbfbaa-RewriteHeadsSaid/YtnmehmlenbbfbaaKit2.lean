/-
  Structs and arrays by value, opened cell by cell.
-/
import Derived.Test.YtnmehmlenbbfbaaKit
import Derived.ChangeMaps5
namespace Go.Proofs.Ytnmehmlenbbfbaa
open Go.ChangeShapes Go.WideShapes Go.ChangeAt Go.RowKit
set_option linter.unusedVariables false
set_option linter.unusedSimpArgs false

/-! ### Structs and arrays by value: cell by cell -/
theorem agg_cells {P : Program} {t : TypeId} {W : World} {base : Nat} {v : Value} {ts : List TypeId} {n : Nat} (ht : (∃ fs, P.underlying t = some (.struct fs)) ∨ ∃ m e, P.underlying t = some (.array m e)) (hts : P.cellTypes P.depth t = some ts) (hc : P.cellsOf t = n) (hn : ts.length = n)
    (hv : Value.okWide P W .any base t v) : ∃ cs : Array Value, v = .agg cs ∧ cs.size = n ∧ ∀ (i : Nat) (u : TypeId) (c : Value), ts[i]? = some u → cs[i]? = some c → Cell.okWide P W .any base u c := by
  have h : ∃ cs, v = .agg cs ∧ cs.size = P.cellsOf t ∧ Row.okWide P W .any base t cs := by
    rcases ht with ⟨fs, h⟩ | ⟨m, e, h⟩ <;> simpa only [Value.okWide, h] using hv
  obtain ⟨cs, rfl, h1, ts', h2, _, h4⟩ := h
  rw [hts] at h2
  cases h2
  refine ⟨cs, rfl, by omega, fun i u c hu hc' => ?_⟩
  obtain ⟨u', h5, h6⟩ := h4 i c hc'
  have hi : i < ts.length := by
    rcases Nat.lt_or_ge i ts.length with h | h
    · exact h
    · rw [List.getElem?_eq_none h] at hu; cases hu
  rw [Nat.mod_eq_of_lt hi, hu] at h5
  cases h5
  exact h6

theorem cell_int {P : Program} {u : TypeId} {W : World} {base : Nat} {c : Value} {k : IntKind} (hu : P.underlying u = some (.int k)) (h : Cell.okWide P W .any base u c) : ∃ a : Int, c = .int k a ∧ k.min ≤ a ∧ a ≤ k.max := by
  simp only [Cell.okWide, hu, Cell.ok] at h
  cases c with
  | int k' n => simp only at h; obtain ⟨rfl, h1, h2⟩ := h; exact ⟨n, rfl, h1, h2⟩
  | _ => simp at h
theorem cell_i64 {P : Program} {u : TypeId} {W : World} {base : Nat} {c : Value} (hu : P.underlying u = some (.int .i64)) (h : Cell.okWide P W .any base u c) : ∃ a : Int, c = .int .i64 a ∧ -9223372036854775808 ≤ a ∧ a ≤ 9223372036854775807 := cell_int hu h
theorem cell_bool {P : Program} {u : TypeId} {W : World} {base : Nat} {c : Value} (hu : P.underlying u = some .bool) (h : Cell.okWide P W .any base u c) : ∃ a : Bool, c = .bool a := by
  simp only [Cell.okWide, hu, Cell.ok] at h
  cases c <;> simp_all
theorem cell_str {P : Program} {u : TypeId} {W : World} {base : Nat} {c : Value} (hu : P.underlying u = some .string) (h : Cell.okWide P W .any base u c) : ∃ s : ByteArray, c = .string s ∧ s.size ≤ 9223372036854775807 := by
  simp only [Cell.okWide, hu, Cell.ok] at h
  cases c with
  | string s => simp only at h; refine ⟨s, rfl, ?_⟩; have : IntKind.i64.max = 9223372036854775807 := rfl; omega
  | _ => simp at h

/-- An array of numbers. -/
theorem open_i64arr {P : Program} {t e : TypeId} {W : World} {base : Nat} {v : Value} {n : Nat} (ht : P.underlying t = some (.array n e)) (he : P.underlying e = some (.int .i64)) (hts : P.cellTypes P.depth t = some (List.replicate n e)) (hc : P.cellsOf t = n)
    (hv : Value.okWide P W .any base t v) : ∃ z : List Int, v = .agg (z.map I).toArray ∧ z.length = n ∧ i64ok z := by
  obtain ⟨cs, rfl, h1, h2⟩ := agg_cells (Or.inr ⟨n, e, ht⟩) hts hc (by simp) hv
  have h3 : ∀ i, i < n → ∃ a, cs[i]? = some (I a) ∧ -9223372036854775808 ≤ a ∧ a ≤ 9223372036854775807 := by
    intro i hi
    obtain ⟨a, ha, hr⟩ := cell_i64 he (h2 i e cs[i] (by simp [hi]) (by simp))
    exact ⟨a, by rw [Array.getElem?_eq_getElem (by omega), ha], hr⟩
  refine ⟨(List.range n).map fun i => intOf (cs.getD i (.int .i64 0)), ?_, by simp, ?_⟩
  · congr 1
    apply Array.ext
    · simp [h1]
    · intro i hi1 hi2
      obtain ⟨a, ha, _⟩ := h3 i (by omega)
      have hx : cs[i] = I a := by rw [Array.getElem?_eq_getElem hi1] at ha; exact Option.some.inj ha
      simp [Array.getD, hi1, hx, intOf]
  · intro m hm
    obtain ⟨i, hi, rfl⟩ := List.mem_map.1 hm
    simp at hi
    obtain ⟨a, ha, hr⟩ := h3 i hi
    rw [Array.getD_eq_getD_getElem?, ha]
    exact hr

/-! ### Slices of numbers of any kind; bytes; texts -/
abbrev NumsAt (k : IntKind) (w : World) (v : Value) (z : List Int) : Prop := Rd w v z.length z.length (fun i => .int k (z.getD i 0))
def kok (k : IntKind) (z : List Int) : Prop := ∀ n ∈ z, k.min ≤ n ∧ n ≤ k.max
theorem open_nums {P : Program} {t e : TypeId} {k : IntKind} {H : Type} {enc : TypeId × Value → H} {W : World} {base : Nat} {v : Value} {d : DataW H} {p : List MemPlace} (ht : P.underlying t = some (.slice e)) (he : P.underlying e = some (.int k)) (hc : P.cellsOf e = 1)
    (hlt : ∀ x ∈ p, x.block < W.heap.size) (hv : Value.okWide P W .any base t v) (h : DataW.Trod enc P W 0 (fun _ => true) true t v d p) :
    ∃ z : List Int, NumsAt k W v z ∧ kok k z ∧ z.length ≤ maxLen := by
  obtain ⟨a0, len, cap, rfl⟩ := okWide_slice ht hv
  obtain ⟨fuel, hf⟩ := h
  rcases open_ints ht he hc hf with ⟨hcs, hx⟩ | ⟨a, len', cap', zs, hcs, _, hl, hm, hz, hx, hcell, hwz⟩
  · simp [Value.cells] at hcs
    obtain ⟨rfl, rfl, rfl⟩ := hcs
    exact ⟨[], Or.inl ⟨none, 0, rfl, rfl, rfl⟩, (fun n hn => by cases hn), by simp⟩
  · simp [Value.cells] at hcs
    obtain ⟨rfl, rfl, rfl⟩ := hcs
    simp only [if_true] at hz
    simp only [Prod.mk.injEq] at hx
    have hlen : (zs.take len).length = len := by simp; omega
    refine ⟨zs.take len, ?_, ?_, by omega⟩
    · by_cases h0 : len = 0
      · subst h0; exact Or.inl ⟨_, _, rfl, by simp, by simp⟩
      · obtain ⟨b, off, spot⟩ := a
        have hspot : spot = none := by simpa [Addr.add] using World.cell?_spot (hcell 0 (by omega))
        subst hspot
        unfold NumsAt
        rw [hlen]
        refine Or.inr ⟨b, off, cap, rfl, by omega, hm, ?_, fun i hi => ?_⟩
        · refine hlt (.cell b off) ?_
          rw [hx.2]
          exact MemPlace.mem_row.2 ⟨0, by omega, by simp⟩
        · have := hcell i (by omega)
          rw [add_plain] at this
          rw [this]
          show some (Value.int k _) = some (Value.int k _)
          rw [List.getD_eq_getElem?_getD, List.getD_eq_getElem?_getD, List.getElem?_take_of_lt hi]
    · intro n hn
      have := hwz n (List.mem_of_mem_take hn)
      simp only [Lit.wf, Bool.and_eq_true, decide_eq_true_eq] at this
      exact this

abbrev U64At (w : World) (v : Value) (z : List Int) : Prop := NumsAt .u64 w v z
def u64ok (z : List Int) : Prop := ∀ n ∈ z, 0 ≤ n ∧ n ≤ 18446744073709551615
theorem open_u64s {P : Program} {t e : TypeId} {H : Type} {enc : TypeId × Value → H} {W : World} {base : Nat} {v : Value} {d : DataW H} {p : List MemPlace} (ht : P.underlying t = some (.slice e)) (he : P.underlying e = some (.int .u64)) (hc : P.cellsOf e = 1)
    (hlt : ∀ x ∈ p, x.block < W.heap.size) (hv : Value.okWide P W .any base t v) (h : DataW.Trod enc P W 0 (fun _ => true) true t v d p) :
    ∃ z : List Int, U64At W v z ∧ u64ok z ∧ z.length ≤ maxLen := by
  obtain ⟨z, h1, h2, h3⟩ := open_nums ht he hc hlt hv h
  exact ⟨z, h1, h2, h3⟩
theorem open_u8 {P : Program} {t : TypeId} {H : Type} {enc : TypeId × Value → H} {W : World} {base : Nat} {v : Value} {d : DataW H} {p : List MemPlace} (ht : P.underlying t = some (.int .u8)) (hv : Value.okWide P W .any base t v) (h : DataW.Trod enc P W 0 (fun _ => true) true t v d p) :
    ∃ a : Int, v = .int .u8 a ∧ 0 ≤ a ∧ a ≤ 255 := by
  obtain ⟨a, rfl, _, _, hw⟩ := open_int ht hv h
  refine ⟨a, rfl, ?_⟩
  simp only [Lit.wf, Bool.and_eq_true, decide_eq_true_eq] at hw
  exact hw
theorem open_str {P : Program} {t : TypeId} {H : Type} {enc : TypeId × Value → H} {W : World} {base : Nat} {v : Value} {d : DataW H} {p : List MemPlace} (ht : P.underlying t = some .string) (hv : Value.okWide P W .any base t v) (h : DataW.Trod enc P W 0 (fun _ => true) true t v d p) :
    ∃ s : ByteArray, v = .string s ∧ s.size ≤ 9223372036854775807 := by
  obtain ⟨s, rfl, _, _, h⟩ := ChangeMaps.open_string ht hv h
  exact ⟨s, rfl, h⟩
end Go.Proofs.Ytnmehmlenbbfbaa
