/-
  Appending what a slice holds, be it none.
-/
import Derived.Test.YtnmehmlenbbfbaaAppM
import Derived.Laws.OwnMore
namespace Go.Proofs.Ytnmehmlenbbfbaa
open Go.ChangeShapes Go.WideShapes Go.ChangeAt Go.RowKit
set_option linter.unusedVariables false
set_option linter.unusedSimpArgs false

/-- A slice of m elements whose cells are these. -/
def Feed (w : World) (u : Value) (m size : Nat) (news : List Value) : Prop :=
  (u = .slice none 0 0 ∧ m = 0 ∧ news = []) ∨ ∃ ad c, u = .slice (some ad) m c ∧ news.length = m * size ∧ ∀ j x, news[j]? = some x → w.cell? (ad.add j) = some x
theorem own_feed {w : World} {base : Nat} {e : TypeId} {size : Nat} {u : Value} {m : Nat} {xs : List Value} (h : w.ownsRow base e size u m xs) : Feed w u m size xs := by
  obtain ⟨h1, h2⟩ := h
  rcases h2 with ⟨hv, hn⟩ | ⟨g, cap, cur, hv, h4, h5, h6, h7, h8, h9⟩
  · subst hn
    exact Or.inl ⟨hv, rfl, List.eq_nil_of_length_eq_zero (by omega)⟩
  · refine Or.inr ⟨⟨g, 0, none⟩, cap, hv, h1, fun j x hj => ?_⟩
    rw [add_plain, Nat.zero_add, cell_at h5]
    rw [← h9, List.getElem?_take] at hj
    split at hj
    · simpa using hj
    · cases hj
theorem Feed.bl {w w' : World} {u : Value} {m size : Nat} {news : List Value} (h : Feed w u m size news) (hb : ∀ p x, w.cell? p = some x → w'.cell? p = some x) : Feed w' u m size news := by
  rcases h with h | ⟨ad, c, h1, h2, h3⟩
  · exact Or.inl h
  · exact Or.inr ⟨ad, c, h1, h2, fun j x hj => hb _ _ (h3 j x hj)⟩

theorem wp_append_feed {P : Program} {o : Oper} {a : Act} {K : Act → World → Prop} {Q : Exit → Act → World → Prop} {wr : World} (s x : Operand) (t : TypeId)
    (ho : o.op = .call { callee := .builtin .append, args := #[s, x], argTypes := #[t, t] })
    (base : Nat) (e : TypeId) (i : TypeInfo) (z : Value) (size bytes : Nat) (ht : P.underlying t = some (.slice e)) (hi : P.info? e = some i) (hz : i.zero = some z) (hsize : i.size = size) (hby : i.bytes = bytes) (hzs : z.cells.size = size) (hsz : 0 < size)
    (v : Value) (n : Nat) (xs : List Value) (hs : a.eval s = v) (hown : wr.ownsRow base e size v n xs) (u : Value) (m : Nat) (news : List Value) (hf : Feed wr u m size news) (hy : ∀ u ∈ news, u.oneCell' = true)
    (hx : a.eval x = u) (hb : (n + m) * bytes ≤ 140737488355328) (hn : n + m ≤ 1000000000) (hbase : base ≤ wr.heap.size)
    (h : ∀ v' w1, w1.ownsRow base e size v' (n + m) (xs ++ news) → wr.grownBy w1 v.ownBlock → K (a.put o.dst v') w1) :
    o.wp P a wr K Q := by
  rcases hf with ⟨hu, hm, hnw⟩ | ⟨ad, c, hu, hl, hc⟩
  · have hr := run_append_owned_none (P := P) (w := wr) base t o.type e i size ht hi v n xs hown
    unfold Oper.wp execOp
    simp only [ho, resolve, invoke, builtin, Sem.run_bind, Sem.run_pure, Result.andThen_ok, List.map_toArray, List.map_cons, List.map_nil, hs, hx, hu, hr]
    refine h v wr ?_ (gby_of_bl (Bl.rfl' _) _)
    subst hm
    subst hnw
    rw [List.append_nil]
    exact hown
  · exact wp_append_many s x t ho base e i z size bytes ht hi hz hsize hby hzs hsz v n xs hs hown ad m c news hl hc hy (by rw [hx, hu]) hb hn hbase h
theorem step_append_feed {P : Program} {ops : Array Oper} {o : Oper} {a : Act} {K : Act → World → Prop} {Q : Exit → Act → World → Prop} {E : Prop} {wr : World} (hgd : o.guard = none) (s x : Operand) (t : TypeId)
    (ho : o.op = .call { callee := .builtin .append, args := #[s, x], argTypes := #[t, t] })
    (base : Nat) (e : TypeId) (i : TypeInfo) (z : Value) (size bytes : Nat) (ht : P.underlying t = some (.slice e)) (hi : P.info? e = some i) (hz : i.zero = some z) (hsize : i.size = size) (hby : i.bytes = bytes) (hzs : z.cells.size = size) (hsz : 0 < size)
    (v : Value) (n : Nat) (xs : List Value) (hs : a.eval s = v) (hown : wr.ownsRow base e size v n xs) (u : Value) (m : Nat) (news : List Value) (hf : Feed wr u m size news) (hy : ∀ u ∈ news, u.oneCell' = true)
    (hx : a.eval x = u) (hb : (n + m) * bytes ≤ 140737488355328) (hn : n + m ≤ 1000000000) (hbase : base ≤ wr.heap.size)
    (h : ∀ v' w1, w1.ownsRow base e size v' (n + m) (xs ++ news) → wr.grownBy w1 v.ownBlock → K (a.put o.dst v') w1) :
    if Region.wanted o (yielded ops a.tmps) = true then Oper.wp P o a wr K Q else E := by
  have hw : Region.wanted o (yielded ops a.tmps) = true := by simp [Region.wanted, hgd]
  rw [if_pos hw]
  exact wp_append_feed s x t ho base e i z size bytes ht hi hz hsize hby hzs hsz v n xs hs hown u m news hf hy hx hb hn hbase h
theorem wpList_append_feed {P : Program} {ops : Array Oper} {rest : List Oper} {o : Oper} {a : Act} {Q : Exit → Act → World → Prop} {wr : World} (hgd : o.guard = none) (s x : Operand) (t : TypeId)
    (ho : o.op = .call { callee := .builtin .append, args := #[s, x], argTypes := #[t, t] })
    (base : Nat) (e : TypeId) (i : TypeInfo) (z : Value) (size bytes : Nat) (ht : P.underlying t = some (.slice e)) (hi : P.info? e = some i) (hz : i.zero = some z) (hsize : i.size = size) (hby : i.bytes = bytes) (hzs : z.cells.size = size) (hsz : 0 < size)
    (v : Value) (n : Nat) (xs : List Value) (hs : a.eval s = v) (hown : wr.ownsRow base e size v n xs) (u : Value) (m : Nat) (news : List Value) (hf : Feed wr u m size news) (hy : ∀ u ∈ news, u.oneCell' = true)
    (hx : a.eval x = u) (hb : (n + m) * bytes ≤ 140737488355328) (hn : n + m ≤ 1000000000) (hbase : base ≤ wr.heap.size)
    (h : ∀ v' w1, w1.ownsRow base e size v' (n + m) (xs ++ news) → wr.grownBy w1 v.ownBlock → wpList P ops Q rest (a.put o.dst v') w1) :
    wpList P ops Q (o :: rest) a wr :=
  wpList_plain hgd fun _ hK => wp_append_feed s x t ho base e i z size bytes ht hi hz hsize hby hzs hsz v n xs hs hown u m news hf hy hx hb hn hbase fun v' w1 h1 h2 => hK _ _ (h v' w1 h1 h2)
end Go.Proofs.Ytnmehmlenbbfbaa
