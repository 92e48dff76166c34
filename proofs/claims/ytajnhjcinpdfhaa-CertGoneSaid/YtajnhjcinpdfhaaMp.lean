/-
  Maps, seen as functions: what a map holds, looking up, putting, taking away, counting.
-/
import Derived.Test.YtajnhjcinpdfhaaGen
import Derived.Test.YtajnhjcinpdfhaaTch
import Derived.MapKept
import Derived.WideMake
namespace Go.Proofs.Ytajnhjcinpdfhaa
open Go.ChangeShapes Go.WideShapes Go.ChangeAt Go.RowKit
set_option linter.unusedVariables false
set_option linter.unusedSimpArgs false

theorem stamped_apart {es : Array MapEntry} {clock : Nat} (hs : MapKept.Stamped es clock) {i j : Nat} (hi : i < es.size) (hj : j < es.size) (he : es[i].key = es[j].key) : i = j := by
  have hp := List.pairwise_iff_getElem.1 ((MapKept.stamped_iff es clock).1 hs).2.2
  rcases Nat.lt_trichotomy i j with h | h | h
  · exact absurd he (hp i j (by simpa using hi) (by simpa using hj) h)
  · exact h
  · exact absurd he.symm (hp j i (by simpa using hj) (by simpa using hi) h)
section
variable {K : Type}
structure KeyEnc (d : TypeDesc) (kenc : K → Value) : Prop where
  key : ∀ k, MapKept.IsKey d (kenc k)
  inj : ∀ a b, kenc a = kenc b → a = b

/-- A map at r holds F, n keys in all. -/
def MpK (kenc : K → Value) (w : World) (r : Nat) (F : K → Option Value) (n : Nat) : Prop :=
  ∃ es clock, w.heap[r]? = some (.map es clock) ∧ MapKept.Stamped es clock ∧ es.size = n ∧ (∀ e ∈ es.toList, ∃ k, e.key = kenc k ∧ F k = some e.val) ∧ (∀ k v, F k = some v → ∃ e ∈ es.toList, e.key = kenc k ∧ e.val = v)
def updK [DecidableEq K] (F : K → Option Value) (k : K) (v : Value) : K → Option Value := fun x => if x = k then some v else F x
def delK [DecidableEq K] (F : K → Option Value) (k : K) : K → Option Value := fun x => if x = k then none else F x
theorem MpK.kept {kenc : K → Value} {w w' : World} {r n : Nat} {F : K → Option Value} (h : MpK kenc w r F n) (hb : ∀ o, w.heap[r]? = some o → w'.heap[r]? = some o) : MpK kenc w' r F n := by
  obtain ⟨es, c, h1, h2⟩ := h; exact ⟨es, c, hb _ h1, h2⟩
theorem MpK.lt {kenc : K → Value} {w : World} {r n : Nat} {F : K → Option Value} (h : MpK kenc w r F n) : r < w.heap.size := by
  obtain ⟨es, c, h1, -⟩ := h; exact lt_of_block h1
theorem MpK.bl {kenc : K → Value} {w w' : World} {r n : Nat} {F : K → Option Value} (h : MpK kenc w r F n) (hb : Bl w w') : MpK kenc w' r F n :=
  h.kept (fun _ h => by rw [hb.block r (lt_of_block h)]; exact h)
theorem MpK.row {kenc : K → Value} {w w' : World} {r n : Nat} {F : K → Option Value} {row : Option Nat} (h : MpK kenc w r F n) (hb : w.grownBy w' row) (hne : row ≠ some r) : MpK kenc w' r F n :=
  h.kept (fun _ h => by rw [hb.block r (lt_of_block h) (fun e => hne e.symm)]; exact h)
theorem MpK.tch {ps : Nat → Prop} {kenc : K → Value} {w w' : World} {r n : Nat} {F : K → Option Value} (h : MpK kenc w r F n) (hb : Tch ps w w') (hne : ¬ ps r) : MpK kenc w' r F n :=
  h.kept (fun _ h => hb.var h hne)
/-- A map is no block of cells. -/
theorem MpK.ne {kenc : K → Value} {w : World} {r n g : Nat} {F : K → Option Value} {cs : Array Value} {t : TypeId} {z : Nat × Nat} (h : MpK kenc w r F n) (hc : w.heap[g]? = some (.cells cs t z)) : r ≠ g := by
  obtain ⟨es, c, h1, -⟩ := h
  rintro rfl
  rw [h1] at hc; cases hc
theorem MpK.made {kenc : K → Value} (w : World) : MpK kenc (w.alloc (.map #[] 0)) w.heap.size (fun _ => none) 0 :=
  ⟨#[], 0, (MapKept.heap_alloc w _).1, MapKept.stamped_empty 0, rfl, by simp, by simp⟩

variable {P : Program} {mty kt et : TypeId} {d : TypeDesc} {kenc : K → Value}
theorem MpK.find {w : World} {r n : Nat} {F : K → Option Value} (E : KeyEnc d kenc) {es : Array MapEntry} (h4 : ∀ e ∈ es.toList, ∃ k, e.key = kenc k ∧ F k = some e.val) (h5 : ∀ k v, F k = some v → ∃ e ∈ es.toList, e.key = kenc k ∧ e.val = v) (k : K) :
    (F k = none ∧ Instr.findNow d (kenc k) es.toList 0 = some none ∧ ∀ x ∈ es.toList, x.key ≠ kenc k) ∨ ∃ j e, F k = some e.val ∧ Instr.findNow d (kenc k) es.toList 0 = some (some (j, e.val)) ∧ es.toList[j]? = some e ∧ e.key = kenc k := by
  have hks : ∀ x ∈ es.toList, MapKept.IsKey d x.key := fun x hx => by obtain ⟨k', e1, -⟩ := h4 x hx; rw [e1]; exact E.key k'
  rcases MapKept.findNow_spec (E.key k) es.toList 0 hks with ⟨h1, h2⟩ | ⟨j, e, h1, h2, h3⟩
  · refine Or.inl ⟨?_, h1, h2⟩
    cases hF : F k with
    | none => rfl
    | some v => obtain ⟨e, he, e1, -⟩ := h5 k v hF; exact absurd e1 (h2 e he)
  · refine Or.inr ⟨j, e, ?_, by rw [h1]; simp, h2, h3⟩
    obtain ⟨k', e1, e2⟩ := h4 e (List.mem_of_getElem? h2)
    rw [h3] at e1
    rw [E.inj _ _ e1]; exact e2
theorem MpK.run_look {w : World} {r n : Nat} {F : K → Option Value} (h : MpK kenc w r F n) (E : KeyEnc d kenc) (hm : P.underlying mty = some (.map kt et)) (hd : P.underlying kt = some d) {z : Value} (hz : (zeroValue et).run P w = .ok z w) (k : K) :
    (Instr.lookup mty (.map (some r)) (kenc k) false).run P w = .ok ((F k).getD z) w ∧ (Instr.lookup mty (.map (some r)) (kenc k) true).run P w = .ok (.tuple #[(F k).getD z, .bool (F k).isSome]) w := by
  obtain ⟨es, clock, hb, hs, hn, h4, h5⟩ := h
  rcases MpK.find (w := w) (r := r) (n := n) E h4 h5 k with ⟨hF, h1, h2⟩ | ⟨j, e, hF, h1, h2, h3⟩
  · rw [hF]
    have hc : ∀ b, (Instr.checkKey b 10000 kt (kenc k)).run P w = .ok () w := fun b => MapKept.run_checkKey hd (E.key k) b 9999
    constructor <;> simp [Instr.lookup, run_underlying hm, MapKept.run_getObj_map hb, hc, MapKept.run_findKey hd h1, hz, Result.andThen]
  · rw [hF]
    have hc : ∀ b, (Instr.checkKey b 10000 kt (kenc k)).run P w = .ok () w := fun b => MapKept.run_checkKey hd (E.key k) b 9999
    constructor <;> simp [Instr.lookup, run_underlying hm, MapKept.run_getObj_map hb, hc, MapKept.run_findKey hd h1, Result.andThen]
theorem MpK.run_len {w : World} {r n : Nat} {F : K → Option Value} (h : MpK kenc w r F n) (hm : P.underlying mty = some (.map kt et)) (ty : TypeId) :
    (Builtin.len_ #[mty] ty #[.map (some r)]).run P w = .ok (.int .i64 n) w := by
  obtain ⟨es, clock, hb, hs, hn, -, -⟩ := h
  simp [Builtin.len_, run_underlying hm, MapKept.run_getObj_map hb, Result.andThen, hn, goInt]
theorem setb_grown (w : World) (r : Nat) (o : Obj) : w.grownBy { w with heap := w.heap.setIfInBounds r o } (some r) := by
  refine ⟨rfl, rfl, rfl, by simp, fun k hk hne => ?_⟩
  exact Array.getElem?_setIfInBounds_ne (fun e => hne (by rw [e]))
theorem MpK.run_upd [DecidableEq K] {w : World} {r n : Nat} {F : K → Option Value} (h : MpK kenc w r F n) (E : KeyEnc d kenc) (hm : P.underlying mty = some (.map kt et)) (hd : P.underlying kt = some d) (k : K) (v : Value) :
    ∃ w', (Instr.mapUpdate mty (.map (some r)) (kenc k) v).run P w = .ok () w' ∧ MpK kenc w' r (updK F k v) (if (F k).isSome then n else n + 1) ∧ w.grownBy w' (some r) ∧ w'.heap.size = w.heap.size := by
  obtain ⟨es, clock, hb, hs, hn, h4, h5⟩ := h
  have hc : (Instr.checkKey false 10000 kt (kenc k)).run P w = .ok () w := MapKept.run_checkKey hd (E.key k) false 9999
  rcases MpK.find (w := w) (r := r) (n := n) E h4 h5 k with ⟨hF, h1, h2⟩ | ⟨j, e, hF, h1, h2, h3⟩
  · refine ⟨_, by simp [Instr.mapUpdate, run_underlying hm, MapKept.run_getObj_map hb, hc, MapKept.run_findKey hd h1, MapKept.run_setObj_map _ hb, Result.andThen]; rfl, ⟨_, _, (MapKept.heap_set hb).1, MapKept.stamped_push hs h2, ?_, ?_, ?_⟩, setb_grown w r _, by simp⟩
    · rw [hF]; simp [hn]
    · intro x hx
      simp only [Array.toList_push, List.mem_append, List.mem_singleton] at hx
      rcases hx with hx | rfl
      · obtain ⟨k', e1, e2⟩ := h4 x hx
        refine ⟨k', e1, ?_⟩
        unfold updK
        rw [if_neg]
        · exact e2
        · rintro rfl; exact h2 x hx e1
      · exact ⟨k, rfl, by unfold updK; rw [if_pos rfl]⟩
    · intro k' v' h'
      unfold updK at h'
      simp only [Array.toList_push, List.mem_append, List.mem_singleton]
      split at h'
      · rename_i hk; cases h'; subst hk; exact ⟨_, Or.inr rfl, rfl, rfl⟩
      · obtain ⟨x, hx, e1, e2⟩ := h5 k' v' h'
        exact ⟨x, Or.inl hx, e1, e2⟩
  · have hj : es[j]? = some e := by simpa using h2
    have hjl : j < es.size := (Array.getElem?_eq_some_iff.1 hj).1
    have hkey : ∀ e', es[j]? = some e' → ({ e' with key := kenc k, val := v } : MapEntry).key = e'.key := fun e' he' => by rw [hj] at he'; cases he'; exact h3.symm
    refine ⟨{ w with heap := w.heap.setIfInBounds r (.map (es.modify j fun e => { e with key := kenc k, val := v }) clock) }, by simp [Instr.mapUpdate, run_underlying hm, MapKept.run_getObj_map hb, hc, MapKept.run_findKey hd h1, hj, h3, MapKept.run_keyThatStays (E.key k), MapKept.run_setObj_map _ hb, Result.andThen], ⟨_, _, (MapKept.heap_set hb).1, MapKept.stamped_modify hs j (fun e => { e with key := kenc k, val := v }) (fun _ _ => rfl) (fun e' _ he' => hkey e' he'), ?_, ?_, ?_⟩, setb_grown w r _, by simp⟩
    · rw [hF]; simp [hn]
    · intro x hx
      obtain ⟨i, hi, rfl⟩ := List.mem_iff_getElem.1 hx
      have hi' : i < es.size := by simpa using hi
      simp only [Array.getElem_toList, Array.getElem_modify]
      split
      · rename_i hij; subst hij; exact ⟨k, rfl, by unfold updK; rw [if_pos rfl]⟩
      · rename_i hij
        obtain ⟨k', e1, e2⟩ := h4 es[i] (by simp)
        refine ⟨k', e1, ?_⟩
        unfold updK
        rw [if_neg]
        · exact e2
        · rintro rfl
          have hje : es[j] = e := by rw [Array.getElem?_eq_getElem hjl] at hj; exact Option.some.inj hj
          exact hij (stamped_apart hs hjl hi' (by rw [hje, h3, e1]))
    · intro k' v' h'
      unfold updK at h'
      split at h'
      · rename_i hk; cases h'; subst hk
        refine ⟨_, List.mem_iff_getElem.2 ⟨j, by simpa using hjl, rfl⟩, ?_, ?_⟩ <;> simp
      · rename_i hk
        obtain ⟨x, hx, e1, e2⟩ := h5 k' v' h'
        obtain ⟨i, hi, rfl⟩ := List.mem_iff_getElem.1 hx
        simp only [Array.length_toList] at hi
        simp only [Array.getElem_toList] at e1 e2
        have hne : j ≠ i := by
          rintro rfl
          have : es[j] = e := by rw [Array.getElem?_eq_getElem hi] at hj; exact Option.some.inj hj
          rw [this, h3] at e1
          exact hk (E.inj _ _ e1).symm
        refine ⟨es[i], List.mem_iff_getElem.2 ⟨i, by simpa using hi, ?_⟩, e1, e2⟩
        simp [Array.getElem_modify, hne]
theorem MpK.run_del [DecidableEq K] {w : World} {r n : Nat} {F : K → Option Value} (h : MpK kenc w r F n) (E : KeyEnc d kenc) (hm : P.underlying mty = some (.map kt et)) (hd : P.underlying kt = some d) (k : K) (kt' ty : TypeId) :
    ∃ w', (Builtin.delete_ #[mty, kt'] ty #[.map (some r), kenc k]).run P w = .ok (.tuple #[]) w' ∧ MpK kenc w' r (delK F k) (if (F k).isSome then n - 1 else n) ∧ w.grownBy w' (some r) ∧ w'.heap.size = w.heap.size := by
  obtain ⟨es, clock, hb, hs, hn, h4, h5⟩ := h
  have hc : ∀ b, (Instr.checkKey b 10000 kt (kenc k)).run P w = .ok () w := fun b => MapKept.run_checkKey hd (E.key k) b 9999
  rcases MpK.find (w := w) (r := r) (n := n) E h4 h5 k with ⟨hF, h1, h2⟩ | ⟨j, e, hF, h1, h2, h3⟩
  · refine ⟨_, by simp [Builtin.delete_, run_underlying hm, MapKept.run_getObj_map hb, hc, MapKept.run_findKey hd h1, MapKept.run_setObj_map _ hb, Result.andThen], ⟨_, _, (MapKept.heap_set hb).1, hs, by rw [hF]; simpa using hn, ?_, ?_⟩, setb_grown w r _, by simp⟩
    · intro x hx
      obtain ⟨k', e1, e2⟩ := h4 x hx
      refine ⟨k', e1, ?_⟩
      unfold delK
      rw [if_neg]
      · exact e2
      · rintro rfl; exact h2 x hx e1
    · intro k' v' h'
      unfold delK at h'
      split at h'
      · cases h'
      · exact h5 k' v' h'
  · have hj : es[j]? = some e := by simpa using h2
    have hjl : j < es.size := (Array.getElem?_eq_some_iff.1 hj).1
    have hes : (es.eraseIdxIfInBounds j).toList = es.toList.eraseIdx j := by
      unfold Array.eraseIdxIfInBounds
      rw [dif_pos hjl]; simp
    have hapart : ∀ i (hi : i < es.size), es[i].key = kenc k → i = j := fun i hi e1 => by
      have hje : es[j] = e := by rw [Array.getElem?_eq_getElem hjl] at hj; exact Option.some.inj hj
      exact stamped_apart hs hi hjl (by rw [hje, h3, e1])
    refine ⟨_, by simp [Builtin.delete_, run_underlying hm, MapKept.run_getObj_map hb, hc, MapKept.run_findKey hd h1, MapKept.run_setObj_map _ hb, Result.andThen]; rfl, ⟨_, _, (MapKept.heap_set hb).1, MapKept.stamped_erase hs _, ?_, ?_, ?_⟩, setb_grown w r _, by simp⟩
    · rw [hF, ← Array.length_toList, hes, List.length_eraseIdx, Array.length_toList, if_pos hjl, hn]; rfl
    · intro x hx
      rw [hes] at hx
      obtain ⟨k', e1, e2⟩ := h4 x (List.mem_of_mem_eraseIdx hx)
      refine ⟨k', e1, ?_⟩
      unfold delK
      rw [if_neg]
      · exact e2
      · rintro rfl
        obtain ⟨i, hi, hne, rfl⟩ := List.mem_eraseIdx_iff_getElem.1 hx
        exact hne (hapart i (by simpa using hi) (by simpa using e1))
    · intro k' v' h'
      unfold delK at h'
      split at h'
      · cases h'
      · rename_i hk
        obtain ⟨x, hx, e1, e2⟩ := h5 k' v' h'
        refine ⟨x, ?_, e1, e2⟩
        rw [hes]
        obtain ⟨i, hi, rfl⟩ := List.mem_iff_getElem.1 hx
        refine List.mem_eraseIdx_iff_getElem.2 ⟨i, hi, ?_, rfl⟩
        rintro rfl
        have : es[i] = e := by rw [Array.getElem?_eq_getElem hjl] at hj; exact Option.some.inj hj
        simp only [Array.getElem_toList] at e1
        rw [this, h3] at e1
        exact hk (E.inj _ _ e1).symm
end
theorem intKey : KeyEnc (.int .i64) I := ⟨fun k => rfl, fun a b h => by cases h; rfl⟩
theorem strKey : KeyEnc .string (fun s : ByteArray => Value.string s) := ⟨fun k => trivial, fun a b h => by cases h; rfl⟩
end Go.Proofs.Ytajnhjcinpdfhaa
