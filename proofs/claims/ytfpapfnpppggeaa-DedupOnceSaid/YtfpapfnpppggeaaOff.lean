/-
  Rows of records that do not begin where their block begins: appending, taking from the front, clearing what was taken.
-/
import Derived.Test.YtfpapfnpppggeaaOwn
import Derived.ArgAppend
import Derived.Deep.Upon
namespace Go.Proofs.Ytfpapfnpppggeaa
open Go.ChangeShapes Go.WideShapes Go.ChangeAt Go.RowKit
set_option linter.unusedVariables false
set_option linter.unusedSimpArgs false

/-- A block's cells with some others from o on. -/
def putL (cur : Array Value) (o : Nat) : List Value → Array Value
  | [] => cur
  | v :: vs => putL (cur.setIfInBounds o v) (o + 1) vs
theorem putL_size : ∀ (vs : List Value) (cur : Array Value) (o : Nat), (putL cur o vs).size = cur.size
  | [], _, _ => rfl
  | v :: vs, cur, o => by unfold putL; rw [putL_size vs]; simp
theorem putL_out : ∀ (vs : List Value) (cur : Array Value) (o j : Nat), (j < o ∨ o + vs.length ≤ j) → (putL cur o vs)[j]? = cur[j]?
  | [], _, _, _, _ => rfl
  | v :: vs, cur, o, j, h => by
    unfold putL
    rw [putL_out vs _ _ _ (by simp only [List.length_cons] at h; omega), Array.getElem?_setIfInBounds_ne (by simp only [List.length_cons] at h; omega)]
theorem putL_in : ∀ (vs : List Value) (cur : Array Value) (o j : Nat), j < vs.length → o + vs.length ≤ cur.size → (putL cur o vs)[o + j]? = vs[j]?
  | [], _, _, j, h, _ => by simp at h
  | v :: vs, cur, o, 0, h, hs => by
    unfold putL
    simp only [List.length_cons] at hs
    rw [putL_out vs _ _ _ (by omega), Nat.add_zero, Array.getElem?_setIfInBounds_self]
    simp [show o < cur.size by omega]
  | v :: vs, cur, o, j + 1, h, hs => by
    unfold putL
    simp only [List.length_cons] at h hs
    rw [show o + (j + 1) = o + 1 + j by omega, putL_in vs _ (o + 1) j (by omega) (by simp; omega)]
    simp
theorem heap_setCells_at {w : World} {b : Nat} {e : TypeId} : ∀ (vs : List Value) (o : Nat) (w : World) (cur : Array Value), w.heap[b]? = some (.cells cur e (0, 0)) → (w.setCells b o vs).heap[b]? = some (.cells (putL cur o vs) e (0, 0))
  | [], _, _, _, h => h
  | v :: vs, o, w, cur, h => heap_setCells_at (w := w) vs (o + 1) _ _ (set_at o v h)
theorem gby_setCells (w : World) (b : Nat) : ∀ (vs : List Value) (o : Nat) (w : World), w.grownBy (w.setCells b o vs) (some b)
  | [], _, w => gby_rfl w _
  | v :: vs, o, w => gby_tr (gby_set w b o v) (gby_setCells w b vs (o + 1) _)

section
variable {α : Type} (enc : α → List Value) (sz : Nat) (e : TypeId)
/-- A slice that reads as records, in a block of its own that it may write, from somewhere on. -/
def OffB (w : World) (v : Value) (A : List α) : Prop :=
  (v = .slice none 0 0 ∧ A = []) ∨ ∃ g o cap cur, v = .slice (some ⟨g, o, none⟩) A.length cap ∧ w.heap[g]? = some (.cells cur e (0, 0)) ∧ A.length ≤ cap ∧ cap ≤ maxLen ∧ o + cap * sz ≤ cur.size ∧ ∀ j, j < A.length * sz → cur[o + j]? = (flatB enc A)[j]?
variable {enc sz e}
theorem OffB.nil (w : World) : OffB enc sz e w (.slice none 0 0) [] := Or.inl ⟨rfl, rfl⟩
theorem OffB.kept {w w' : World} {v : Value} {A : List α} (h : OffB enc sz e w v A) (hb : ∀ g o, v.ownBlock = some g → w.heap[g]? = some o → w'.heap[g]? = some o) : OffB enc sz e w' v A := by
  rcases h with h | ⟨g, o, cap, cur, rfl, h1, h2⟩
  · exact Or.inl h
  · exact Or.inr ⟨g, o, cap, cur, rfl, hb g _ rfl h1, h2⟩
theorem OffB.bl {w w' : World} {v : Value} {A : List α} (h : OffB enc sz e w v A) (hb : Bl w w') : OffB enc sz e w' v A := h.kept (fun _ _ _ h => blk_bl h hb)
theorem OffB.row {w w' : World} {v : Value} {A : List α} {row : Option Nat} (h : OffB enc sz e w v A) (hb : w.grownBy w' row) (hne : v.ownBlock = none ∨ v.ownBlock ≠ row) : OffB enc sz e w' v A :=
  h.kept (fun g o hv h => blk_row h hb (fun hr => by rcases hne with h' | h'; rw [h'] at hv; cases hv; exact h' (by rw [hv, hr])))
theorem OffB.tch {ps : Nat → Prop} {w w' : World} {v : Value} {A : List α} (h : OffB enc sz e w v A) (hb : Tch ps w w') (hn : ∀ k, v.ownBlock = some k → ¬ ps k) : OffB enc sz e w' v A :=
  h.kept (fun g o hv h => hb.var h (hn g hv))
theorem OffB.lt {w : World} {v : Value} {A : List α} (h : OffB enc sz e w v A) : ∀ k, v.ownBlock = some k → k < w.heap.size := by
  rcases h with ⟨rfl, -⟩ | ⟨g, o, cap, cur, rfl, h1, h2⟩
  · intro k hk; simp [Value.ownBlock] at hk
  · intro k hk; simp only [Value.ownBlock, Option.some.injEq] at hk; subst hk; exact lt_of_block h1
theorem OffB.apart {w : World} {v : Value} {A : List α} {g : Nat} {t : TypeId} {cs : Array Value} {z : Nat × Nat} (h : OffB enc sz e w v A) (hc : w.heap[g]? = some (.cells cs t z)) (he : e ≠ t) : v.ownBlock ≠ some g := by
  rcases h with ⟨rfl, -⟩ | ⟨g', o, cap, cur, rfl, h1, h2⟩
  · simp [Value.ownBlock]
  · intro hk; simp only [Value.ownBlock, Option.some.injEq] at hk; subst hk
    rw [h1] at hc; simp only [Option.some.injEq, Obj.cells.injEq] at hc; exact he hc.2.1
theorem OffB.map {w : World} {v : Value} {A : List α} {g : Nat} {es : Array MapEntry} {c : Nat} (h : OffB enc sz e w v A) (hc : w.heap[g]? = some (.map es c)) : v.ownBlock ≠ some g := by
  rcases h with ⟨rfl, -⟩ | ⟨g', o, cap, cur, rfl, h1, h2⟩
  · simp [Value.ownBlock]
  · intro hk; simp only [Value.ownBlock, Option.some.injEq] at hk; subst hk
    rw [h1] at hc; cases hc
/-- How it reads. -/
theorem OffB.read {w : World} {v : Value} {A : List α} (h : OffB enc sz e w v A) : ∃ a g o cap, v = .slice a A.length cap ∧ A.length ≤ cap ∧ cap ≤ maxLen ∧ RowB enc sz w g o a A ∧ (v.ownBlock = none ∨ v.ownBlock = some g) := by
  rcases h with ⟨rfl, rfl⟩ | ⟨g, o, cap, cur, rfl, h1, h2, h3, h4, h5⟩
  · exact ⟨none, 0, 0, 0, rfl, Nat.le_refl _, by decide, fun h => by simp at h, Or.inl rfl⟩
  · exact ⟨_, g, o, cap, rfl, h2, h3, fun _ => ⟨rfl, cur, e, h1, h5⟩, Or.inr rfl⟩

theorem wp_append_off {P : Program} {o : Oper} {a : Act} {K : Act → World → Prop} {Q : Exit → Act → World → Prop} {wr : World} (s x : Operand) (t : TypeId)
    (ho : o.op = .call { callee := .builtin .append, args := #[s, x], argTypes := #[t, t] })
    (i : TypeInfo) (z : Value) (bytes : Nat) (ht : P.underlying t = some (.slice e)) (hi : P.info? e = some i) (hz : i.zero = some z) (hsize : i.size = sz) (hby : i.bytes = bytes) (hzs : z.cells.size = sz) (hsz : 0 < sz)
    (v : Value) (A : List α) (he : ∀ x, (enc x).length = sz) (hs : a.eval s = v) (hown : OffB enc sz e wr v A) (y : α) (te : TypeId) (hy : ∀ u ∈ enc y, u.oneCell' = true) (c : Nat)
    (hx : a.eval x = .slice (some ⟨wr.heap.size, 0, none⟩) 1 c) (hb : (A.length + 1) * bytes ≤ 140737488355328) (hn : A.length ≤ 1000000000)
    (h : ∀ b off cap w1, OffB enc sz e w1 (.slice (some ⟨b, off, none⟩) (A.length + 1) cap) (A ++ [y]) → wr.grownBy w1 v.ownBlock → (v.ownBlock = some b ∨ wr.heap.size ≤ b) → K (a.put o.dst (.slice (some ⟨b, off, none⟩) (A.length + 1) cap)) w1) :
    o.wp P a (wr.alloc (.cells (enc y).toArray te)) K Q := by
  subst hsize
  subst hby
  have hnews : ∀ j u, (enc y)[j]? = some u → (wr.alloc (.cells (enc y).toArray te)).cell? ((⟨wr.heap.size, 0, none⟩ : Addr).add j) = some u := by
    intro j u hj
    rw [add_plain, cell_at (heap_alloc_new wr (.cells (enc y).toArray te))]
    simpa using hj
  have hl : (enc y).length = 1 * i.size := by rw [he]; omega
  have hbl : Bl wr (wr.alloc (.cells (enc y).toArray te)) := (Bl.rfl' wr).al _
  have hown1 := hown.bl hbl
  have hflat : flatB enc (A ++ [y]) = flatB enc A ++ enc y := flatB_snoc enc A y
  have hfl : (flatB enc A).length = A.length * i.size := flatB_len he A
  unfold Oper.wp execOp
  rcases hown1 with ⟨rfl, rfl⟩ | ⟨g, off, cap, cur, rfl, h1, h2, h3, h4, h5⟩
  · have hr := run_append_nil (P := P) (wr.alloc (.cells (enc y).toArray te)) t o.type e i z ht hi hz ⟨wr.heap.size, 0, none⟩ 1 c (enc y) hl hnews (by decide) (by omega) (by simp only [List.length_nil, Nat.zero_add] at hb; omega)
    simp only [ho, resolve, invoke, builtin, Sem.run_bind, Sem.run_pure, Result.andThen_ok, List.map_toArray, List.map_cons, List.map_nil, hs, hx, hr]
    have hge := grownCap_ge (wr.alloc (.cells (enc y).toArray te)) 1 0 e
    have hcm : grownCap (wr.alloc (.cells (enc y).toArray te)) 1 0 e ≤ maxLen := grownCap_le_maxLen _ 1 0 e (by unfold maxLen; omega)
    refine h _ 0 _ _ (Or.inr ⟨_, 0, _, _, rfl, heap_alloc_new (World.drew _) _, by simpa using hge, hcm, ?_, fun j hj => ?_⟩) ⟨rfl, rfl, rfl, by simp; omega, fun k hk _ => ?_⟩ (Or.inr (by simp))
    · simp only [Array.size_append, List.size_toArray, size_zeroCells, hzs, hl, Nat.zero_add, Nat.one_mul]
      rw [show i.size + (grownCap (wr.alloc (.cells (enc y).toArray te)) 1 0 e - 1) * i.size = (1 + (grownCap (wr.alloc (.cells (enc y).toArray te)) 1 0 e - 1)) * i.size by rw [Nat.add_mul, Nat.one_mul]]
      exact Nat.mul_le_mul_right _ (by omega)
    · simp only [List.nil_append, List.length_cons, List.length_nil, Nat.zero_add, Nat.one_mul] at hj ⊢
      rw [flatB_one, Array.getElem?_append_left (by simpa [he] using hj)]
      simp
    · exact (hbl.dr.al _).block k hk
  · by_cases hroom : A.length + 1 ≤ cap
    · have hrm : A.length * i.size + i.size ≤ cap * i.size := by
        have := Nat.mul_le_mul_right i.size hroom
        rw [Nat.succ_mul] at this; exact this
      have hr := run_append_room_cells (P := P) (wr.alloc (.cells (enc y).toArray te)) t o.type e i ht hi g off A.length cap ⟨wr.heap.size, 0, none⟩ 1 c (enc y) hl hnews hy hroom
        (fun j hj => by rw [he] at hj; rw [cell_at h1, Array.getElem?_eq_getElem (by omega)]; rfl) (fun j hj => free_at h1 _)
      simp only [ho, resolve, invoke, builtin, Sem.run_bind, Sem.run_pure, Result.andThen_ok, List.map_toArray, List.map_cons, List.map_nil, hs, hx, hr]
      refine h g off cap _ (Or.inr ⟨g, off, cap, _, by rw [List.length_append]; rfl, heap_setCells_at (w := wr) (enc y) _ _ cur h1, by simpa using hroom, h3, by rw [putL_size]; exact h4, fun j hj => ?_⟩) (gby_tr (gby_of_bl hbl _) (gby_setCells wr g (enc y) _ _)) (Or.inl rfl)
      simp only [List.length_append, List.length_cons, List.length_nil] at hj
      rw [hflat]
      rcases Nat.lt_or_ge j (A.length * i.size) with hlt | hge
      · rw [putL_out _ _ _ _ (by left; omega), h5 j hlt, List.getElem?_append_left (by omega)]
      · rw [List.getElem?_append_right (by omega), hfl]
        have hk : j - A.length * i.size < i.size := by rw [Nat.add_mul, Nat.one_mul] at hj; omega
        rw [show off + j = off + A.length * i.size + (j - A.length * i.size) by omega, putL_in _ _ _ _ (by rw [he]; exact hk) (by rw [he]; omega)]
    · have holds : ∀ j u, (flatB enc A)[j]? = some u → (wr.alloc (.cells (enc y).toArray te)).cell? ((⟨g, off, none⟩ : Addr).add j) = some u := fun j u hj => by
        have hjl : j < A.length * i.size := by
          rw [← hfl]
          rcases Nat.lt_or_ge j (flatB enc A).length with h | h
          · exact h
          · rw [List.getElem?_eq_none h] at hj; cases hj
        rw [add_plain, cell_at h1, h5 j hjl]; exact hj
      have hr := run_append_grow (P := P) (wr.alloc (.cells (enc y).toArray te)) t o.type e i z ht hi hz ⟨g, off, none⟩ A.length cap (flatB enc A) hfl holds ⟨wr.heap.size, 0, none⟩ 1 c (enc y) hl hnews (by omega) (by omega) (growslice_fits (by omega) hb)
      simp only [ho, resolve, invoke, builtin, Sem.run_bind, Sem.run_pure, Result.andThen_ok, List.map_toArray, List.map_cons, List.map_nil, hs, hx, hr]
      have hge := grownCap_ge (wr.alloc (.cells (enc y).toArray te)) (A.length + 1) cap e
      have hcm : grownCap (wr.alloc (.cells (enc y).toArray te)) (A.length + 1) cap e ≤ maxLen := grownCap_le_maxLen _ _ _ e (by unfold maxLen; omega)
      refine h _ 0 _ _ (Or.inr ⟨_, 0, _, _, by rw [List.length_append]; rfl, heap_alloc_new (World.drew _) _, by rw [List.length_append]; exact hge, hcm, ?_, fun j hj => ?_⟩) ⟨rfl, rfl, rfl, by simp; omega, fun k hk _ => ?_⟩ (Or.inr (by simp))
      · simp only [Array.size_append, List.size_toArray, size_zeroCells, hzs, hfl, hl, Nat.zero_add, ← Nat.add_mul]
        exact Nat.mul_le_mul_right _ (by omega)
      · rw [hflat, Nat.zero_add]
        rw [List.length_append, Nat.add_mul] at hj
        rw [Array.getElem?_append_left (by simp [hfl, he]; simpa using hj)]
        simp
      · exact (hbl.dr.al _).block k hk
theorem wpList_append_off {P : Program} {ops : Array Oper} {rest : List Oper} {o : Oper} {a : Act} {Q : Exit → Act → World → Prop} {wr : World} (hgd : o.guard = none) (s x : Operand) (t : TypeId)
    (ho : o.op = .call { callee := .builtin .append, args := #[s, x], argTypes := #[t, t] })
    (i : TypeInfo) (z : Value) (bytes : Nat) (ht : P.underlying t = some (.slice e)) (hi : P.info? e = some i) (hz : i.zero = some z) (hsize : i.size = sz) (hby : i.bytes = bytes) (hzs : z.cells.size = sz) (hsz : 0 < sz)
    (v : Value) (A : List α) (he : ∀ x, (enc x).length = sz) (hs : a.eval s = v) (hown : OffB enc sz e wr v A) (y : α) (te : TypeId) (hy : ∀ u ∈ enc y, u.oneCell' = true) (c : Nat)
    (hx : a.eval x = .slice (some ⟨wr.heap.size, 0, none⟩) 1 c) (hb : (A.length + 1) * bytes ≤ 140737488355328) (hn : A.length ≤ 1000000000)
    (h : ∀ b off cap w1, OffB enc sz e w1 (.slice (some ⟨b, off, none⟩) (A.length + 1) cap) (A ++ [y]) → wr.grownBy w1 v.ownBlock → (v.ownBlock = some b ∨ wr.heap.size ≤ b) → wpList P ops Q rest (a.put o.dst (.slice (some ⟨b, off, none⟩) (A.length + 1) cap)) w1) :
    wpList P ops Q (o :: rest) a (wr.alloc (.cells (enc y).toArray te)) :=
  wpList_plain hgd fun _ hK => wp_append_off s x t ho i z bytes ht hi hz hsize hby hzs hsz v A he hs hown y te hy c hx hb hn fun b off cap w1 h1 h2 h3 => hK _ _ (h b off cap w1 h1 h2 h3)

/-- What is left of a row whose first records were cleared. -/
theorem OffB.cleared {w : World} {g o cap : Nat} {cur : Array Value} {A : List α} (he : ∀ x, (enc x).length = sz) (h1 : w.heap[g]? = some (.cells cur e (0, 0))) (h2 : A.length ≤ cap) (h3 : cap ≤ maxLen) (h4 : o + cap * sz ≤ cur.size) (h5 : ∀ j, j < A.length * sz → cur[o + j]? = (flatB enc A)[j]?) (k : Nat) (hk : k ≤ A.length) (zs : List Value) (hz : zs.length = k * sz) :
    OffB enc sz e (w.setCells g o zs) (.slice (some ⟨g, o + k * sz, none⟩) (A.length - k) (cap - k)) (A.drop k) := by
  have hlen : (A.drop k).length = A.length - k := List.length_drop
  have hks : k * sz ≤ A.length * sz := Nat.mul_le_mul_right sz hk
  refine Or.inr ⟨g, o + k * sz, cap - k, _, by rw [hlen], heap_setCells_at (w := w) zs _ _ cur h1, by rw [hlen]; omega, by omega, ?_, fun j hj => ?_⟩
  · rw [putL_size, Nat.sub_mul]
    have : k * sz ≤ cap * sz := Nat.mul_le_mul_right sz (by omega)
    omega
  · rw [hlen, Nat.sub_mul] at hj
    rw [putL_out _ _ _ _ (by right; rw [hz]; omega), Nat.add_assoc, h5 _ (by omega)]
    have hs : A = A.take k ++ A.drop k := (List.take_append_drop k A).symm
    conv => lhs; rw [hs]
    have hti : (flatB enc (A.take k)).length = k * sz := by rw [flatB_len he, List.length_take, Nat.min_eq_left hk]
    rw [flatB_app, List.getElem?_append_right (by omega), hti]
    congr 1; omega
end
theorem run_clear {P : Program} {w : World} {t ty e : TypeId} {z : Value} {g o n cap : Nat} (ht : P.underlying t = some (.slice e)) (hz : (zeroValue e).run P w = .ok z w) (hn : n ≠ 0)
    (hc : ∀ j, j < (Builtin.zeroCells z.cells n).toList.length → (w.cell? ⟨g, o + j, none⟩).isSome = true) (hf : ∀ j, w.frozen? ⟨g, o + j, none⟩ = false) (h1 : ∀ v ∈ (Builtin.zeroCells z.cells n).toList, v.oneCell' = true) :
    (Builtin.clear_ #[t] ty #[.slice (some ⟨g, o, none⟩) n cap]).run P w = .ok (.tuple #[]) (w.setCells g o (Builtin.zeroCells z.cells n).toList) := by
  have hst := run_storeCells_cells (P := P) g o (Builtin.zeroCells z.cells n).toList 0 w (by simpa using hc) (by simpa using fun j _ => hf j) h1
  simp only [Nat.add_zero] at hst
  cases n with
  | zero => exact absurd rfl hn
  | succ n => simp [Builtin.clear_, run_underlying ht, hz, hst, Result.andThen]
end Go.Proofs.Ytfpapfnpppggeaa
