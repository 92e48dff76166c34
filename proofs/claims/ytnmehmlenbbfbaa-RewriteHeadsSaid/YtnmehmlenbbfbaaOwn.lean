/-
  Appending with an exact frame: the row's block is the one that it was, or a new one.
-/
import Derived.Test.YtnmehmlenbbfbaaRow
import Derived.Deep.RegionHeldLaw
namespace Go.Proofs.Ytnmehmlenbbfbaa
open Go.ChangeShapes Go.WideShapes Go.ChangeAt Go.RowKit
set_option linter.unusedVariables false
set_option linter.unusedSimpArgs false

/-- The block of a row behind an append. -/
theorem append_block {P : Program} (w : World) (base : Nat) (t ty e : TypeId) (i : TypeInfo) (z : Value) (size bytes : Nat) (ht : P.underlying t = some (.slice e)) (hi : P.info? e = some i) (hz : i.zero = some z)
    (hsize : i.size = size) (hby : i.bytes = bytes) (v : Value) (n : Nat) (xs : List Value) (hown : w.ownsRow base e size v n xs)
    (a : Addr) (m c : Nat) (news : List Value) (hm0 : 0 < m) (hl : news.length = m * size) (hnews : ∀ j u, news[j]? = some u → w.cell? (a.add j) = some u) (h1 : ∀ u ∈ news, u.oneCell' = true)
    (h63 : n + m ≤ maxLen) (hbytes : (n + m) * bytes ≤ 140737488355328) {v' : Value} {w' : World} (hr : (Builtin.append_ #[t, t] ty #[v, .slice (some a) m c]).run P w = .ok v' w') :
    ∀ k, v'.ownBlock = some k → v.ownBlock = some k ∨ k = w.heap.size := by
  subst hsize
  subst hby
  have hsmall : n + m ≤ 9223372036854775807 := by simp only [maxLen] at h63; omega
  rcases hown.2 with ⟨rfl, rfl⟩ | ⟨g, cap, cur, rfl, hbg, hg, hnc, hcm, hcs, htake⟩
  · rw [run_append_nil (P := P) w t ty e i z ht hi hz a m c news hl hnews hm0 (by omega) (by simp only [Nat.zero_add] at hbytes; omega)] at hr
    cases hr
    intro k hk
    simp only [Value.ownBlock, Option.some.injEq] at hk
    exact Or.inr hk.symm
  · by_cases hroom : n + m ≤ cap
    · have hfit : n * i.size + news.length ≤ cur.size := by rw [hl, hcs, ← Nat.add_mul]; exact Nat.mul_le_mul_right _ hroom
      rw [run_append_room (P := P) w t ty e i ht hi g n cap cur hg a m c news hl hnews h1 hroom hfit] at hr
      cases hr
      intro k hk
      exact Or.inl hk
    · have holds : ∀ j u, xs[j]? = some u → w.cell? ((⟨g, 0, none⟩ : Addr).add j) = some u := hown.cells (g := g) rfl
      rw [run_append_grow (P := P) w t ty e i z ht hi hz ⟨g, 0, none⟩ n cap xs hown.1 holds a m c news hl hnews (by omega) (by omega) (growslice_fits (by omega) hbytes)] at hr
      cases hr
      intro k hk
      simp only [Value.ownBlock, Option.some.injEq] at hk
      exact Or.inr hk.symm

theorem wp_append_rec {P : Program} {o : Oper} {a : Act} {K : Act → World → Prop} {Q : Exit → Act → World → Prop} {wr : World} (s x : Operand) (t : TypeId)
    (ho : o.op = .call { callee := .builtin .append, args := #[s, x], argTypes := #[t, t] })
    (base : Nat) (e : TypeId) (i : TypeInfo) (z : Value) (size bytes : Nat) (ht : P.underlying t = some (.slice e)) (hi : P.info? e = some i) (hz : i.zero = some z) (hsize : i.size = size) (hby : i.bytes = bytes) (hzs : z.cells.size = size) (hsz : 0 < size)
    (v : Value) (n : Nat) (xs : List Value) (hs : a.eval s = v) (hown : wr.ownsRow base e size v n xs) (ys : Array Value) (te : TypeId) (hyl : ys.size = size) (hy : ∀ u ∈ ys.toList, u.oneCell' = true) (c : Nat)
    (hx : a.eval x = .slice (some ⟨wr.heap.size, 0, none⟩) 1 c) (hb : (n + 1) * bytes ≤ 140737488355328) (hn : n ≤ 1000000000) (hbase : base ≤ wr.heap.size)
    (h : ∀ b cap w1, w1.ownsRow base e size (.slice (some ⟨b, 0, none⟩) (n + 1) cap) (n + 1) (xs ++ ys.toList) → wr.grownBy w1 v.ownBlock → (v.ownBlock = some b ∨ wr.heap.size ≤ b) → K (a.put o.dst (.slice (some ⟨b, 0, none⟩) (n + 1) cap)) w1) :
    o.wp P a (wr.alloc (.cells ys te)) K Q := by
  have hnews : ∀ j u, ys.toList[j]? = some u → (wr.alloc (.cells ys te)).cell? ((⟨wr.heap.size, 0, none⟩ : Addr).add j) = some u := by
    intro j u hj
    rw [add_plain, cell_at (heap_alloc_new wr (.cells ys te))]
    simpa using hj
  have h63 : n + 1 ≤ maxLen := by unfold maxLen; omega
  have hl : ys.toList.length = 1 * size := by simp [hyl]
  obtain ⟨v', w', hr, h2, h3, h4⟩ := run_append_own (P := P) (wr.alloc (.cells ys te)) base t o.type e i z size bytes ht hi hz hsize hby hzs hsz v n xs (hown.alloc _) ⟨wr.heap.size, 0, none⟩ 1 c ys.toList hl hnews hy h63 hb (by simp; omega)
  have h5 := append_block (P := P) (wr.alloc (.cells ys te)) base t o.type e i z size bytes ht hi hz hsize hby v n xs (hown.alloc _) ⟨wr.heap.size, 0, none⟩ 1 c ys.toList (by decide) hl hnews hy h63 hb hr
  have hg : wr.grownBy w' v.ownBlock := gby_tr (World.grownBy_alloc wr _ _) h3
  have hown2 := h2
  obtain ⟨_, h22⟩ := h2
  unfold Oper.wp execOp
  simp only [ho, resolve, invoke, builtin, Sem.run_bind, Sem.run_pure, Result.andThen_ok, List.map_toArray, List.map_cons, List.map_nil, hs, hx, hr]
  rcases h22 with ⟨_, h0⟩ | ⟨g, cap, cur, rfl, _⟩
  · omega
  · refine h g cap w' hown2 hg ?_
    rcases h5 g rfl with h | h
    · exact Or.inl h
    · exact Or.inr (by rw [h]; simp)
theorem wpList_append_rec {P : Program} {ops : Array Oper} {rest : List Oper} {o : Oper} {a : Act} {Q : Exit → Act → World → Prop} {wr : World} (hgd : o.guard = none) (s x : Operand) (t : TypeId)
    (ho : o.op = .call { callee := .builtin .append, args := #[s, x], argTypes := #[t, t] })
    (base : Nat) (e : TypeId) (i : TypeInfo) (z : Value) (size bytes : Nat) (ht : P.underlying t = some (.slice e)) (hi : P.info? e = some i) (hz : i.zero = some z) (hsize : i.size = size) (hby : i.bytes = bytes) (hzs : z.cells.size = size) (hsz : 0 < size)
    (v : Value) (n : Nat) (xs : List Value) (hs : a.eval s = v) (hown : wr.ownsRow base e size v n xs) (ys : Array Value) (te : TypeId) (hyl : ys.size = size) (hy : ∀ u ∈ ys.toList, u.oneCell' = true) (c : Nat)
    (hx : a.eval x = .slice (some ⟨wr.heap.size, 0, none⟩) 1 c) (hb : (n + 1) * bytes ≤ 140737488355328) (hn : n ≤ 1000000000) (hbase : base ≤ wr.heap.size)
    (h : ∀ b cap w1, w1.ownsRow base e size (.slice (some ⟨b, 0, none⟩) (n + 1) cap) (n + 1) (xs ++ ys.toList) → wr.grownBy w1 v.ownBlock → (v.ownBlock = some b ∨ wr.heap.size ≤ b) → wpList P ops Q rest (a.put o.dst (.slice (some ⟨b, 0, none⟩) (n + 1) cap)) w1) :
    wpList P ops Q (o :: rest) a (wr.alloc (.cells ys te)) :=
  wpList_plain hgd fun _ hK => wp_append_rec s x t ho base e i z size bytes ht hi hz hsize hby hzs hsz v n xs hs hown ys te hyl hy c hx hb hn hbase fun b cap w1 h1 h2 h3 => hK _ _ (h b cap w1 h1 h2 h3)
theorem step_append_rec {P : Program} {ops : Array Oper} {o : Oper} {a : Act} {K : Act → World → Prop} {Q : Exit → Act → World → Prop} {E : Prop} {wr : World} (hgd : o.guard = none) (s x : Operand) (t : TypeId)
    (ho : o.op = .call { callee := .builtin .append, args := #[s, x], argTypes := #[t, t] })
    (base : Nat) (e : TypeId) (i : TypeInfo) (z : Value) (size bytes : Nat) (ht : P.underlying t = some (.slice e)) (hi : P.info? e = some i) (hz : i.zero = some z) (hsize : i.size = size) (hby : i.bytes = bytes) (hzs : z.cells.size = size) (hsz : 0 < size)
    (v : Value) (n : Nat) (xs : List Value) (hs : a.eval s = v) (hown : wr.ownsRow base e size v n xs) (ys : Array Value) (te : TypeId) (hyl : ys.size = size) (hy : ∀ u ∈ ys.toList, u.oneCell' = true) (c : Nat)
    (hx : a.eval x = .slice (some ⟨wr.heap.size, 0, none⟩) 1 c) (hb : (n + 1) * bytes ≤ 140737488355328) (hn : n ≤ 1000000000) (hbase : base ≤ wr.heap.size)
    (h : ∀ b cap w1, w1.ownsRow base e size (.slice (some ⟨b, 0, none⟩) (n + 1) cap) (n + 1) (xs ++ ys.toList) → wr.grownBy w1 v.ownBlock → (v.ownBlock = some b ∨ wr.heap.size ≤ b) → K (a.put o.dst (.slice (some ⟨b, 0, none⟩) (n + 1) cap)) w1) :
    if Region.wanted o (yielded ops a.tmps) = true then Oper.wp P o a (wr.alloc (.cells ys te)) K Q else E := by
  have hw : Region.wanted o (yielded ops a.tmps) = true := by simp [Region.wanted, hgd]
  rw [if_pos hw]
  exact wp_append_rec s x t ho base e i z size bytes ht hi hz hsize hby hzs hsz v n xs hs hown ys te hyl hy c hx hb hn hbase h

/-! What touches known blocks. -/
theorem Tch.new {ks : Nat → Prop} {w w8 w9 : World} {y : Nat} (h : Tch ks w w8) (g : w8.grownBy w9 (some y)) (hy : w.heap.size ≤ y) : Tch ks w w9 :=
  ⟨g.os.trans h.os, g.tape.trans h.tape, g.output.trans h.output, Nat.le_trans h.size g.size, fun k hk hn => (g.block k (Nat.lt_of_lt_of_le hk h.size) (fun e => by cases e; omega)).trans (h.block k hk hn)⟩
theorem Tch.row {ks : Nat → Prop} {w w8 w9 : World} {row : Option Nat} (h : Tch ks w w8) (g : w8.grownBy w9 row) (hy : ∀ k, row = some k → ks k ∨ w.heap.size ≤ k) : Tch ks w w9 :=
  ⟨g.os.trans h.os, g.tape.trans h.tape, g.output.trans h.output, Nat.le_trans h.size g.size, fun k hk hn => (g.block k (Nat.lt_of_lt_of_le hk h.size) (fun e => by rcases hy k e.symm with h | h; exact hn h; omega)).trans (h.block k hk hn)⟩
/-- The blocks of an object behind an act: those that it had, and new ones. -/
def grw (ks : Nat → Prop) (w w' : World) : Nat → Prop := fun k => (ks k ∨ w.heap.size ≤ k) ∧ k < w'.heap.size
theorem grw_not {ks : Nat → Prop} {w w' : World} {q : Nat} (h : ¬ ks q) (hq : q < w.heap.size) : ¬ grw ks w w' q := fun hh => by
  rcases hh.1 with h' | h'
  · exact h h'
  · omega
theorem own_tch {ps : Nat → Prop} {w w' : World} {b s n : Nat} {e : TypeId} {v : Value} {xs : List Value} (h : w.ownsRow b e s v n xs) (hb : Tch ps w w') (hn : ∀ k, v.ownBlock = some k → ¬ ps k) : w'.ownsRow b e s v n xs := by
  refine ⟨h.1, ?_⟩
  rcases h.2 with h2 | ⟨g, cap, cur, rfl, h4, h5, h6⟩
  · exact Or.inl h2
  · exact Or.inr ⟨g, cap, cur, rfl, h4, hb.var h5 (hn g rfl), h6⟩
end Go.Proofs.Ytnmehmlenbbfbaa
