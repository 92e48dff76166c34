/-
  A small kit: what a call leaves (Bl), how a slice reads (Rd), and how a law's contract becomes its statement.
-/
import Derived.Test.YtnmehmlenbbfbaaRows
import Derived.WalkKit
import Derived.ProofKit
import Derived.OpenShut
import Derived.Lib.Hide
import Derived.IntWalk
import Derived.Carry
import Derived.Deep.Grids
import Derived.Deep.Slices
import Derived.Deep.QuietTactic
import Derived.BigQuiet
import Derived.Outline
namespace Go.Proofs.Ytnmehmlenbbfbaa
open Go.ChangeShapes Go.WideShapes Go.ChangeAt Go.RowKit
set_option linter.unusedVariables false
set_option linter.unusedSimpArgs false

theorem ret_int {k : IntKind} {a b : Int} (h : a = b) : Ending.returned (.int k a) = .returned (.int k b) := by rw [h]
theorem ret_bool {a b : Bool} (h : a = b) : Ending.returned (.bool a) = .returned (.bool b) := by rw [h]

abbrev Bl (w w' : World) : Prop := Below w.heap.size w w'
theorem Bl.rfl' (w : World) : Bl w w := Below.refl _ _
theorem Bl.drewN (w : World) (n : Nat) : Bl w (w.drewN n) := ⟨rfl, rfl, rfl, Nat.le_refl _, fun _ _ => rfl⟩
theorem Bl.tr {a b c : World} (h : Bl a b) (k : Bl b c) : Bl a c := Below.trans h (Below.mono k h.size)
theorem Bl.al {w wr : World} (h : Bl w wr) (o : Obj) : Bl w (wr.alloc o) := Below.alloc h h.size o
theorem Bl.dr {w wr : World} (h : Bl w wr) : Bl w wr.drew := Below.drew h
theorem Bl.drn {w wr : World} (h : Bl w wr) (n : Nat) : Bl w (wr.drewN n) := Bl.tr h (Bl.drewN _ _)

/-- A slice of len elements that reads as n cells, cell i holding g i. -/
def Rd (w : World) (v : Value) (len n : Nat) (g : Nat → Value) : Prop :=
  (∃ a cap, v = .slice a 0 cap ∧ len = 0 ∧ n = 0) ∨ ∃ b off cap, v = .slice (some ⟨b, off, none⟩) len cap ∧ len ≤ cap ∧ cap ≤ maxLen ∧ b < w.heap.size ∧ ∀ i, i < n → w.cell? ⟨b, off + i, none⟩ = some (g i)

theorem Rd.below {w w' : World} {v : Value} {len n : Nat} {g : Nat → Value} (h : Rd w v len n g) (hb : Bl w w') : Rd w' v len n g := by
  rcases h with h | ⟨b, off, cap, hv, hl, hm, hlt, hc⟩
  · exact Or.inl h
  · exact Or.inr ⟨b, off, cap, hv, hl, hm, Nat.lt_of_lt_of_le hlt hb.size, fun i hi => (hb.cell (p := ⟨b, off + i, none⟩) hlt).trans (hc i hi)⟩

abbrev I (n : Int) : Value := .int .i64 n
def icell (z : List Int) (i : Nat) : Value := I (z.getD i 0)
abbrev IntsAt (w : World) (v : Value) (z : List Int) : Prop := Rd w v z.length z.length (icell z)

theorem own_below {w w' : World} {base n size : Nat} {e : TypeId} {v : Value} {xs : List Value} (h : w.ownsRow base e size v n xs) (hb : Bl w w') : w'.ownsRow base e size v n xs := by
  obtain ⟨h1, h2⟩ := h
  refine ⟨h1, ?_⟩
  rcases h2 with h2 | ⟨g, cap, cur, h3, h4, h5, h6, h7, h8, h9⟩
  · exact Or.inl h2
  · refine Or.inr ⟨g, cap, cur, h3, h4, ?_, h6, h7, h8, h9⟩
    have hlt : g < w.heap.size := by
      rcases Nat.lt_or_ge g w.heap.size with hl | hl
      · exact hl
      · rw [Array.getElem?_eq_none hl] at h5; cases h5
    rw [hb.block g hlt]; exact h5

theorem Rd.of_own {w : World} {base n size : Nat} {e : TypeId} {v : Value} {xs : List Value} {g : Nat → Value} (h : w.ownsRow base e size v n xs) (hg : ∀ i, i < n * size → xs[i]? = some (g i)) : Rd w v n (n * size) g := by
  have hs := h
  obtain ⟨h1, h2⟩ := h
  rcases h2 with ⟨hv, hn⟩ | ⟨b, cap, cur, h3, h4, h5, h6, h7, h8, h9⟩
  · subst hn; exact Or.inl ⟨none, 0, hv, rfl, by omega⟩
  · refine Or.inr ⟨b, 0, cap, h3, h6, h7, ?_, fun i hi => ?_⟩
    · rcases Nat.lt_or_ge b w.heap.size with hl | hl
      · exact hl
      · rw [Array.getElem?_eq_none hl] at h5; cases h5
    · have := World.ownsRow.cells hs (g := b) (by rw [h3]; rfl) i (g i) (hg i hi)
      rw [add_plain] at this; simpa using this

theorem q_of {P : Program} {f : FuncId} {args : Array Value} {w : World} {v : Value} (h : Calls P f args w fun e w' => e = .returned v ∧ w = w') : Calls P f args w fun e w' => e = .returned v ∧ w' = w :=
  h.mono fun _ _ hh => ⟨hh.1, hh.2.symm⟩

/-- A literal slice of numbers. -/
theorem ints_lit (w : World) (e : TypeId) (z : List Int) (hm : z.length ≤ maxLen) : IntsAt (w.alloc (.cells (z.map I).toArray e)) (.slice (some ⟨w.heap.size, 0, none⟩) z.length z.length) z := by
  have h := Rd.of_own (g := icell z) (World.ownsRow_lit (base := w.heap.size) (e := e) (size := 1) w (z.map I).toArray z.length (Nat.le_refl _) hm (by simp)) (by
    intro i hi
    simp only [icell, List.toList_toArray, List.getElem?_map, List.getD_eq_getElem?_getD]
    rw [List.getElem?_eq_getElem (by omega)]; rfl)
  rw [Nat.mul_one] at h
  exact h

theorem ints_cell {w : World} {b off len cap : Nat} {z : List Int} (h : IntsAt w (.slice (some ⟨b, off, none⟩) len cap) z) (i : Nat) (hi : i < z.length) : w.cell? ⟨b, off + i, none⟩ = some (I (z.getD i 0)) := by
  rcases h with ⟨_, _, hs, h0, _⟩ | ⟨b', off', cap', hs, _, _, _, hc⟩
  · omega
  · simp only [Value.slice.injEq, Option.some.injEq, Addr.mk.injEq] at hs
    obtain ⟨⟨rfl, rfl, _⟩, _, _⟩ := hs
    exact hc i hi

/-! ### A law's contract, and its statement -/
theorem trodAll_below {H : Type} {enc : TypeId × Value → H} {P : Program} (hl : laidOutB P = true) {W W' : World} (hb : Bl W W') :
    ∀ (ts : List TypeId) (hts : ∀ t ∈ ts, P.readableRec t = true ∧ t < P.types.size) (vs : List Value) (ds : List (DataW H)) (ps : List MemPlace),
      DataW.TrodAll enc P W 0 (fun _ => true) true ts vs ds ps → (∀ x ∈ ps, x.block < W.heap.size) → DataW.TrodAll enc P W' 0 (fun b => decide (b < W.heap.size)) true ts vs ds ps
  | [], _, [], [], _, h, _ => h
  | t :: ts, hts, v :: vs, d :: ds, _, ⟨p, q, h1, h2, he⟩, hlt => by
    subst he
    refine ⟨p, q, Below.trod hl (hts t (List.mem_cons_self ..)).1 (hts t (List.mem_cons_self ..)).2 h1 hb (fun x hx => hlt x (List.mem_append_left _ hx)), ?_, rfl⟩
    exact trodAll_below hl hb ts (fun u hu => hts u (List.mem_cons_of_mem _ hu)) vs ds q h2 (fun x hx => hlt x (List.mem_append_right _ hx))
  | [], _, _ :: _, _, _, h, _ => h.elim
  | [], _, [], _ :: _, _, h, _ => h.elim
  | _ :: _, _, [], _, _, h, _ => h.elim
  | _ :: _, _, _ :: _, [], _, h, _ => h.elim

theorem law_post {H : Type} {enc : TypeId × Value → H} {P : Program} {f : Func} {s : ChangeSpec} {W W' : World} {args : Array Value} {ds gs : List (DataW H)} {before : List MemPlace} {tb : TypeId}
    (hl : laidOutB P = true) (hts : ∀ t ∈ f.params.toList, P.readableRec t = true ∧ t < P.types.size) (hr : f.resultTypes = #[tb]) (ht : P.underlying tb = some .bool) (hsv : s.vars = [])
    (hW : DataW.Whole enc P f.params.toList s.vars false W args.toList ds gs before)
    (h1 : (s.fn H (ds ++ gs)).results = [.lit (.bool true)]) (h2 : (s.fn H (ds ++ gs)).args = ds) (h3 : (s.fn H (ds ++ gs)).vars = []) (hb : Bl W W') :
    s.post enc P f false true false false W args (.bool true) W' := by
  have hlt := hW.lt
  obtain ⟨p, q, hA, hV, hpq, hz, hn⟩ := id hW
  have hV' : q = [] := by
    rw [hsv] at hV
    cases gs with
    | nil => exact hV
    | cons _ _ => exact hV.elim
  subst hV'
  rw [List.append_nil] at hpq
  subst hpq
  refine ⟨ds, gs, before, [], before, [], hW, ?_, ?_, ?_, hb.frame _, fun h => by cases h⟩
  · rw [h1, hr]
    exact trodAll_cons_mk (shut_bool ht _) trodAll_mk0
  · rw [h2]
    exact trodAll_below hl hb _ hts _ _ _ hA hlt
  · rw [h3, hsv]; rfl

theorem reads_all {P : Program} {ts : List TypeId} (h : (ts.all fun t => P.readableRec t && decide (t < P.types.size)) = true) : ∀ t ∈ ts, P.readableRec t = true ∧ t < P.types.size := by
  intro t ht
  have := List.all_eq_true.1 h t ht
  simpa using this

/-! ### Arguments, opened -/
theorem open_i64 {P : Program} {t : TypeId} {H : Type} {enc : TypeId × Value → H} {W : World} {base : Nat} {v : Value} {d : DataW H} {p : List MemPlace} (ht : P.underlying t = some (.int .i64)) (hv : Value.okWide P W .any base t v) (h : DataW.Trod enc P W 0 (fun _ => true) true t v d p) :
    ∃ a : Int, v = .int .i64 a ∧ -9223372036854775808 ≤ a ∧ a ≤ 9223372036854775807 := by
  obtain ⟨a, rfl, _, _, hw⟩ := open_int ht hv h
  refine ⟨a, rfl, ?_⟩
  simp only [Lit.wf, Bool.and_eq_true, decide_eq_true_eq] at hw
  exact hw

theorem open_u64 {P : Program} {t : TypeId} {H : Type} {enc : TypeId × Value → H} {W : World} {base : Nat} {v : Value} {d : DataW H} {p : List MemPlace} (ht : P.underlying t = some (.int .u64)) (hv : Value.okWide P W .any base t v) (h : DataW.Trod enc P W 0 (fun _ => true) true t v d p) :
    ∃ a : Int, v = .int .u64 a ∧ 0 ≤ a ∧ a ≤ 18446744073709551615 := by
  obtain ⟨a, rfl, _, _, hw⟩ := open_int ht hv h
  refine ⟨a, rfl, ?_⟩
  simp only [Lit.wf, Bool.and_eq_true, decide_eq_true_eq] at hw
  exact hw

theorem open_boo {P : Program} {t : TypeId} {H : Type} {enc : TypeId × Value → H} {W : World} {base : Nat} {v : Value} {d : DataW H} {p : List MemPlace} (ht : P.underlying t = some .bool) (hv : Value.okWide P W .any base t v) (h : DataW.Trod enc P W 0 (fun _ => true) true t v d p) :
    ∃ a : Bool, v = .bool a := by
  obtain ⟨a, rfl, _⟩ := open_bool ht hv h
  exact ⟨a, rfl⟩

def i64ok (z : List Int) : Prop := ∀ n ∈ z, -9223372036854775808 ≤ n ∧ n ≤ 9223372036854775807

theorem open_i64s {P : Program} {t e : TypeId} {H : Type} {enc : TypeId × Value → H} {W : World} {base : Nat} {v : Value} {d : DataW H} {p : List MemPlace} (ht : P.underlying t = some (.slice e)) (he : P.underlying e = some (.int .i64)) (hc : P.cellsOf e = 1)
    (hlt : ∀ x ∈ p, x.block < W.heap.size) (hv : Value.okWide P W .any base t v) (h : DataW.Trod enc P W 0 (fun _ => true) true t v d p) :
    ∃ z : List Int, IntsAt W v z ∧ i64ok z ∧ z.length ≤ maxLen := by
  obtain ⟨a0, len, cap, rfl⟩ := okWide_slice ht hv
  obtain ⟨fuel, hf⟩ := h
  rcases open_ints ht he hc hf with ⟨hcs, hx⟩ | ⟨a, len', cap', zs, hcs, _, hl, hm, hz, hx, hcell, hwz⟩
  · simp [Value.cells] at hcs
    obtain ⟨rfl, rfl, rfl⟩ := hcs
    exact ⟨[], Or.inl ⟨none, 0, rfl, rfl, rfl⟩, (fun n hn => by cases hn), by simp⟩
  · simp [Value.cells] at hcs
    obtain ⟨rfl, rfl, rfl⟩ := hcs
    simp only [if_true] at hz
    simp only [Prod.mk.injEq] at hx
    have hlen : (zs.take len).length = len := by simp; omega
    refine ⟨zs.take len, ?_, ?_, by omega⟩
    · by_cases h0 : len = 0
      · subst h0; exact Or.inl ⟨_, _, rfl, by simp, by simp⟩
      · obtain ⟨b, off, spot⟩ := a
        have hspot : spot = none := by simpa [Addr.add] using World.cell?_spot (hcell 0 (by omega))
        subst hspot
        unfold IntsAt
        rw [hlen]
        refine Or.inr ⟨b, off, cap, rfl, by omega, hm, ?_, fun i hi => ?_⟩
        · refine hlt (.cell b off) ?_
          rw [hx.2]
          exact MemPlace.mem_row.2 ⟨0, by omega, by simp⟩
        · have := hcell i (by omega)
          rw [add_plain] at this
          rw [this]
          unfold icell
          rw [List.getD_eq_getElem?_getD, List.getD_eq_getElem?_getD, List.getElem?_take_of_lt hi]
    · intro n hn
      have := hwz n (List.mem_of_mem_take hn)
      simp only [Lit.wf, Bool.and_eq_true, decide_eq_true_eq] at this
      exact this

theorem open_bs {P : Program} {t e : TypeId} {H : Type} {enc : TypeId × Value → H} {W : World} {base : Nat} {v : Value} {d : DataW H} {p : List MemPlace} (ht : P.underlying t = some (.slice e)) (he : P.underlying e = some .bool) (hc : P.cellsOf e = 1)
    (hlt : ∀ x ∈ p, x.block < W.heap.size) (hv : Value.okWide P W .any base t v) (h : DataW.Trod enc P W 0 (fun _ => true) true t v d p) :
    ∃ z : List Bool, Rd W v z.length z.length (fun i => .bool (z.getD i false)) ∧ z.length ≤ maxLen := by
  obtain ⟨a0, len, cap, rfl⟩ := okWide_slice ht hv
  obtain ⟨fuel, hf⟩ := h
  rcases Deep.open_bools ht he hc hf with ⟨hcs, hx⟩ | ⟨a, len', cap', B, hcs, _, hl, hm, hx, hcell⟩
  · simp [Value.cells] at hcs
    obtain ⟨rfl, rfl, rfl⟩ := hcs
    exact ⟨[], Or.inl ⟨none, 0, rfl, rfl, rfl⟩, by simp⟩
  · simp [Value.cells] at hcs
    obtain ⟨rfl, rfl, rfl⟩ := hcs
    simp only [Prod.mk.injEq] at hx
    have hlen : ((List.range len).map B).length = len := by simp
    refine ⟨(List.range len).map B, ?_, by omega⟩
    rw [hlen]
    by_cases h0 : len = 0
    · subst h0; exact Or.inl ⟨_, _, rfl, rfl, rfl⟩
    · obtain ⟨b, off, spot⟩ := a
      have hspot : spot = none := by simpa [Addr.add] using World.cell?_spot (hcell 0 (by omega))
      subst hspot
      refine Or.inr ⟨b, off, cap, rfl, by omega, hm, ?_, fun i hi => ?_⟩
      · refine hlt (.cell b off) ?_
        rw [hx.2]
        exact MemPlace.mem_row.2 ⟨0, by omega, by simp⟩
      · have := hcell i (by omega)
        rw [add_plain] at this
        rw [this]
        simp [List.getD_eq_getElem?_getD, hi]
end Go.Proofs.Ytnmehmlenbbfbaa
