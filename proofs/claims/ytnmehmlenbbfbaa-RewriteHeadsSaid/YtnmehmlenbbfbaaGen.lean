/-
  What walks over any program ask: lists, appending one element, worlds that grow.
-/
import Derived.Test.YtnmehmlenbbfbaaKit
import Derived.OneCell
namespace Go.Proofs.Ytnmehmlenbbfbaa
open Go.ChangeShapes Go.WideShapes Go.ChangeAt Go.RowKit
set_option linter.unusedVariables false
set_option linter.unusedSimpArgs false

theorem take_snoc {α : Type} (L : List α) (k : Nat) (d : α) (h : k < L.length) : L.take (k + 1) = L.take k ++ [L.getD k d] := by
  rw [List.take_succ_eq_append_getElem h, List.getD_eq_getElem?_getD, List.getElem?_eq_getElem h]; rfl
theorem getD_mem {α : Type} (L : List α) (k : Nat) (d : α) (h : k < L.length) : L.getD k d ∈ L := by
  rw [List.getD_eq_getElem?_getD, List.getElem?_eq_getElem h]; exact List.getElem_mem h
theorem Bl.grown {w wr w1 : World} {row : Option Nat} (h : Bl w wr) (hg : wr.grownBy w1 row) (hr : ∀ k, row = some k → w.heap.size ≤ k) : Bl w w1 := Below.grown h hg h.size hr
theorem Bl.gp {w wr w1 : World} {p : Nat} (h : Bl w wr) (hg : wr.grownBy w1 (some p)) (hp : w.heap.size ≤ p) : Bl w w1 := h.grown hg (fun k hk => by cases hk; exact hp)
theorem gby_tr {a b c : World} {r : Option Nat} (h1 : a.grownBy b r) (h2 : b.grownBy c r) : a.grownBy c r :=
  ⟨h2.os.trans h1.os, h2.tape.trans h1.tape, h2.output.trans h1.output, Nat.le_trans h1.size h2.size, fun k hk hne => (h2.block k (Nat.lt_of_lt_of_le hk h1.size) hne).trans (h1.block k hk hne)⟩
theorem gby_set (w : World) (p i : Nat) (x : Value) : w.grownBy (w.setCell ⟨p, i, none⟩ x) (some p) := by
  refine ⟨rfl, rfl, rfl, by simp, fun k hk hne => Below.heap_setCell _ _ _ _ (fun e => hne (by rw [e]))⟩
theorem gby_drew {w w' : World} {r} (h : w.grownBy w' r) : w.grownBy w'.drew r := ⟨h.os, h.tape, h.output, h.size, h.block⟩
theorem gby_rfl (w : World) (r : Option Nat) : w.grownBy w r := ⟨rfl, rfl, rfl, Nat.le_refl _, fun _ _ _ => rfl⟩
theorem gby_of_bl {w w' : World} (h : Bl w w') (r : Option Nat) : w.grownBy w' r := ⟨h.os, h.tape, h.output, h.size, fun k hk _ => h.block k hk⟩

theorem one_cell (w : World) (x : Value) (t : TypeId) (j : Nat) (u : Value) (h : [x][j]? = some u) : (w.alloc (.cells #[x] t)).cell? ((⟨w.heap.size, 0, none⟩ : Addr).add j) = some u := by
  match j with
  | 0 => simp at h; subst h; simp [Addr.add]
  | j + 1 => simp at h
theorem bl_app {w wr w1 : World} {e : TypeId} {size n : Nat} {v : Value} {xs : List Value} {o : Obj} (h : Bl w wr) (hown : wr.ownsRow w.heap.size e size v n xs) (hg : (wr.alloc o).grownBy w1 v.ownBlock) : Bl w w1 :=
  (h.al _).grown hg (fun k hk => (hown.lt k hk).1)

/-- 's = append(s, x)', s the call's own: one element, of one cell. -/
theorem wpList_append_one {P : Program} {ops : Array Oper} {rest : List Oper} {o : Oper} {a : Act} {Q : Exit → Act → World → Prop} {wr : World} (hgd : o.guard = none) (s x : Operand) (t : TypeId)
    (ho : o.op = .call { callee := .builtin .append, args := #[s, x], argTypes := #[t, t] })
    (base : Nat) (e : TypeId) (i : TypeInfo) (z : Value) (bytes : Nat) (ht : P.underlying t = some (.slice e)) (hi : P.info? e = some i) (hz : i.zero = some z) (hsize : i.size = 1) (hby : i.bytes = bytes) (hzs : z.cells.size = 1)
    (v : Value) (n : Nat) (xs : List Value) (hs : a.eval s = v) (hown : wr.ownsRow base e 1 v n xs) (y : Value) (te : TypeId) (hy : y.oneCell' = true) (c : Nat)
    (hx : a.eval x = .slice (some ⟨wr.heap.size, 0, none⟩) 1 c) (hb : (n + 1) * bytes ≤ 140737488355328) (hn : n ≤ 1000000000) (hbase : base ≤ wr.heap.size)
    (h : ∀ b cap w1, w1.ownsRow base e 1 (.slice (some ⟨b, 0, none⟩) (n + 1) cap) (n + 1) (xs ++ [y]) → wr.grownBy w1 v.ownBlock → wpList P ops Q rest (a.put o.dst (.slice (some ⟨b, 0, none⟩) (n + 1) cap)) w1) :
    wpList P ops Q (o :: rest) a (wr.alloc (.cells #[y] te)) := by
  refine wpList_append_own _ hgd s x t ho base e i z 1 bytes ht hi hz hsize hby hzs (by decide) v n xs hs (hown.alloc _) ⟨wr.heap.size, 0, none⟩ 1 c [y] hx rfl (one_cell wr y te) (by intro u hu; simp at hu; subst hu; exact hy) (by unfold maxLen; omega) hb (by simp; omega) ?_
  intro v' w1 hown' hgrow _
  have hg : wr.grownBy w1 v.ownBlock := gby_tr (World.grownBy_alloc wr _ _) hgrow
  have hown2 := hown'
  obtain ⟨_, h2⟩ := hown'
  rcases h2 with ⟨_, h0⟩ | ⟨g, cap, cur, rfl, _⟩
  · omega
  · exact h g cap w1 hown2 hg

/-! ### Blocks by their cells -/
theorem set_at {w : World} {p : Nat} {cs : Array Value} {t : TypeId} (i : Nat) (u : Value) (h : w.heap[p]? = some (.cells cs t (0, 0))) : (w.setCell ⟨p, i, none⟩ u).heap[p]? = some (.cells (cs.setIfInBounds i u) t (0, 0)) := by
  have hlt := lt_of_block h
  have h' : w.heap[p] = .cells cs t (0, 0) := by simpa [Array.getElem?_eq_getElem hlt] using h
  show (w.heap.modify p _)[p]? = _
  rw [Array.getElem?_eq_getElem (by simpa using hlt), Array.getElem_modify_self, h']
  simp [Addr.spot]
theorem cell_at {w : World} {p : Nat} {cs : Array Value} {t : TypeId} (h : w.heap[p]? = some (.cells cs t (0, 0))) (i : Nat) : w.cell? ⟨p, i, none⟩ = cs[i]? := by simp [World.cell?, h]
theorem free_at {w : World} {p : Nat} {cs : Array Value} {t : TypeId} (h : w.heap[p]? = some (.cells cs t (0, 0))) (i : Nat) : w.frozen? ⟨p, i, none⟩ = false := by simp [World.frozen?, h]

/-- A row of the call's own lies at or behind its base. -/
theorem own_ne {w : World} {base p : Nat} {e : TypeId} {size n : Nat} {v : Value} {xs : List Value} (h : w.ownsRow base e size v n xs) (hp : p < base) : v.ownBlock = none ∨ v.ownBlock ≠ some p :=
  Or.inr (fun hh => by have := (h.lt p hh).1; omega)


/-- 's = append(s, x)', s the call's own: one element, of some cells. -/
theorem wpList_append_row {P : Program} {ops : Array Oper} {rest : List Oper} {o : Oper} {a : Act} {Q : Exit → Act → World → Prop} {wr : World} (hgd : o.guard = none) (s x : Operand) (t : TypeId)
    (ho : o.op = .call { callee := .builtin .append, args := #[s, x], argTypes := #[t, t] })
    (base : Nat) (e : TypeId) (i : TypeInfo) (z : Value) (size bytes : Nat) (ht : P.underlying t = some (.slice e)) (hi : P.info? e = some i) (hz : i.zero = some z) (hsize : i.size = size) (hby : i.bytes = bytes) (hzs : z.cells.size = size) (hsz : 0 < size)
    (v : Value) (n : Nat) (xs : List Value) (hs : a.eval s = v) (hown : wr.ownsRow base e size v n xs) (ys : Array Value) (te : TypeId) (hyl : ys.size = size) (hy : ∀ u ∈ ys.toList, u.oneCell' = true) (c : Nat)
    (hx : a.eval x = .slice (some ⟨wr.heap.size, 0, none⟩) 1 c) (hb : (n + 1) * bytes ≤ 140737488355328) (hn : n ≤ 1000000000) (hbase : base ≤ wr.heap.size)
    (h : ∀ b cap w1, w1.ownsRow base e size (.slice (some ⟨b, 0, none⟩) (n + 1) cap) (n + 1) (xs ++ ys.toList) → wr.grownBy w1 v.ownBlock → wpList P ops Q rest (a.put o.dst (.slice (some ⟨b, 0, none⟩) (n + 1) cap)) w1) :
    wpList P ops Q (o :: rest) a (wr.alloc (.cells ys te)) := by
  refine wpList_append_own _ hgd s x t ho base e i z size bytes ht hi hz hsize hby hzs hsz v n xs hs (hown.alloc _) ⟨wr.heap.size, 0, none⟩ 1 c ys.toList hx (by simp [hyl]) ?_ hy (by unfold maxLen; omega) hb (by simp; omega) ?_
  · intro j u hj
    rw [add_plain, cell_at (heap_alloc_new wr (.cells ys te))]
    simpa using hj
  intro v' w1 hown' hgrow _
  have hg : wr.grownBy w1 v.ownBlock := gby_tr (World.grownBy_alloc wr _ _) hgrow
  have hown2 := hown'
  obtain ⟨_, h2⟩ := hown'
  rcases h2 with ⟨_, h0⟩ | ⟨g, cap, cur, rfl, _⟩
  · omega
  · exact h g cap w1 hown2 hg
theorem own_blk {w : World} {base n size : Nat} {e : TypeId} {v : Value} {xs : List Value} (h : w.ownsRow base e size v n xs) (hsz : 0 < size) : ∃ a g cap cur, v = .slice a n cap ∧ base ≤ g ∧ (0 < n → a = some ⟨g, 0, none⟩ ∧ w.heap[g]? = some (.cells cur e (0, 0)) ∧ (n ≤ cap ∧ cap ≤ 9223372036854775807) ∧ ∀ j, j < n * size → cur[j]? = xs[j]?) := by
  obtain ⟨h1, h2⟩ := h
  rcases h2 with ⟨rfl, rfl⟩ | ⟨g, cap, cur, rfl, h3, h4, h5, h6, h7, h8⟩
  · exact ⟨none, base, 0, #[], rfl, Nat.le_refl _, fun h => by omega⟩
  · refine ⟨_, g, cap, cur, rfl, h3, fun _ => ⟨rfl, h4, ⟨h5, h6⟩, fun j hj => ?_⟩⟩
    rw [← h8, List.getElem?_take_of_lt hj]
    simp

/-- A row that is handed in, read behind what came since. -/
theorem rd_any {w : World} {v : Value} {len : Nat} {g : Nat → Value} (h : Rd w v len len g) : ∃ a cap, v = .slice a len cap ∧ ∀ w', Bl w w' → ∀ i, i < len → ∃ b off, a = some ⟨b, off, none⟩ ∧ w'.cell? ⟨b, off + i, none⟩ = some (g i) := by
  rcases h with ⟨a, c, rfl, h2, h3⟩ | ⟨b, off, c, rfl, h2, h3, h4, h5⟩
  · exact ⟨a, c, by rw [h2], fun w' _ i hi => by omega⟩
  · exact ⟨_, c, rfl, fun w' hb i hi => ⟨b, off, rfl, (hb.cell (p := ⟨b, off + i, none⟩) h4).trans (h5 i hi)⟩⟩
end Go.Proofs.Ytnmehmlenbbfbaa
