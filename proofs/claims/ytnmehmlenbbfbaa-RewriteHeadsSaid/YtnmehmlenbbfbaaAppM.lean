/-
  Appending so many records at once.
-/
import Derived.Test.YtnmehmlenbbfbaaOwn
import Derived.Deep.RegionHeldLaw
namespace Go.Proofs.Ytnmehmlenbbfbaa
open Go.ChangeShapes Go.WideShapes Go.ChangeAt Go.RowKit
set_option linter.unusedVariables false
set_option linter.unusedSimpArgs false

theorem wp_append_many {P : Program} {o : Oper} {a : Act} {K : Act → World → Prop} {Q : Exit → Act → World → Prop} {wr : World} (s x : Operand) (t : TypeId)
    (ho : o.op = .call { callee := .builtin .append, args := #[s, x], argTypes := #[t, t] })
    (base : Nat) (e : TypeId) (i : TypeInfo) (z : Value) (size bytes : Nat) (ht : P.underlying t = some (.slice e)) (hi : P.info? e = some i) (hz : i.zero = some z) (hsize : i.size = size) (hby : i.bytes = bytes) (hzs : z.cells.size = size) (hsz : 0 < size)
    (v : Value) (n : Nat) (xs : List Value) (hs : a.eval s = v) (hown : wr.ownsRow base e size v n xs) (ad : Addr) (m c : Nat) (news : List Value) (hl : news.length = m * size) (hnews : ∀ j u, news[j]? = some u → wr.cell? (ad.add j) = some u) (hy : ∀ u ∈ news, u.oneCell' = true)
    (hx : a.eval x = .slice (some ad) m c) (hb : (n + m) * bytes ≤ 140737488355328) (hn : n + m ≤ 1000000000) (hbase : base ≤ wr.heap.size)
    (h : ∀ v' w1, w1.ownsRow base e size v' (n + m) (xs ++ news) → wr.grownBy w1 v.ownBlock → K (a.put o.dst v') w1) :
    o.wp P a wr K Q := by
  have h63 : n + m ≤ maxLen := by unfold maxLen; omega
  obtain ⟨v', w', hr, h2, h3, h4⟩ := run_append_own (P := P) wr base t o.type e i z size bytes ht hi hz hsize hby hzs hsz v n xs hown ad m c news hl hnews hy h63 hb hbase
  unfold Oper.wp execOp
  simp only [ho, resolve, invoke, builtin, Sem.run_bind, Sem.run_pure, Result.andThen_ok, List.map_toArray, List.map_cons, List.map_nil, hs, hx, hr]
  exact h v' w' h2 h3
theorem step_append_many {P : Program} {ops : Array Oper} {o : Oper} {a : Act} {K : Act → World → Prop} {Q : Exit → Act → World → Prop} {E : Prop} {wr : World} (hgd : o.guard = none) (s x : Operand) (t : TypeId)
    (ho : o.op = .call { callee := .builtin .append, args := #[s, x], argTypes := #[t, t] })
    (base : Nat) (e : TypeId) (i : TypeInfo) (z : Value) (size bytes : Nat) (ht : P.underlying t = some (.slice e)) (hi : P.info? e = some i) (hz : i.zero = some z) (hsize : i.size = size) (hby : i.bytes = bytes) (hzs : z.cells.size = size) (hsz : 0 < size)
    (v : Value) (n : Nat) (xs : List Value) (hs : a.eval s = v) (hown : wr.ownsRow base e size v n xs) (ad : Addr) (m c : Nat) (news : List Value) (hl : news.length = m * size) (hnews : ∀ j u, news[j]? = some u → wr.cell? (ad.add j) = some u) (hy : ∀ u ∈ news, u.oneCell' = true)
    (hx : a.eval x = .slice (some ad) m c) (hb : (n + m) * bytes ≤ 140737488355328) (hn : n + m ≤ 1000000000) (hbase : base ≤ wr.heap.size)
    (h : ∀ v' w1, w1.ownsRow base e size v' (n + m) (xs ++ news) → wr.grownBy w1 v.ownBlock → K (a.put o.dst v') w1) :
    if Region.wanted o (yielded ops a.tmps) = true then Oper.wp P o a wr K Q else E := by
  have hw : Region.wanted o (yielded ops a.tmps) = true := by simp [Region.wanted, hgd]
  rw [if_pos hw]
  exact wp_append_many s x t ho base e i z size bytes ht hi hz hsize hby hzs hsz v n xs hs hown ad m c news hl hnews hy hx hb hn hbase h
theorem wpList_append_many {P : Program} {ops : Array Oper} {rest : List Oper} {o : Oper} {a : Act} {Q : Exit → Act → World → Prop} {wr : World} (hgd : o.guard = none) (s x : Operand) (t : TypeId)
    (ho : o.op = .call { callee := .builtin .append, args := #[s, x], argTypes := #[t, t] })
    (base : Nat) (e : TypeId) (i : TypeInfo) (z : Value) (size bytes : Nat) (ht : P.underlying t = some (.slice e)) (hi : P.info? e = some i) (hz : i.zero = some z) (hsize : i.size = size) (hby : i.bytes = bytes) (hzs : z.cells.size = size) (hsz : 0 < size)
    (v : Value) (n : Nat) (xs : List Value) (hs : a.eval s = v) (hown : wr.ownsRow base e size v n xs) (ad : Addr) (m c : Nat) (news : List Value) (hl : news.length = m * size) (hnews : ∀ j u, news[j]? = some u → wr.cell? (ad.add j) = some u) (hy : ∀ u ∈ news, u.oneCell' = true)
    (hx : a.eval x = .slice (some ad) m c) (hb : (n + m) * bytes ≤ 140737488355328) (hn : n + m ≤ 1000000000) (hbase : base ≤ wr.heap.size)
    (h : ∀ v' w1, w1.ownsRow base e size v' (n + m) (xs ++ news) → wr.grownBy w1 v.ownBlock → wpList P ops Q rest (a.put o.dst v') w1) :
    wpList P ops Q (o :: rest) a wr :=
  wpList_plain hgd fun _ hK => wp_append_many s x t ho base e i z size bytes ht hi hz hsize hby hzs hsz v n xs hs hown ad m c news hl hnews hy hx hb hn hbase fun v' w1 h1 h2 => hK _ _ (h v' w1 h1 h2)
/-- The cells of a part of a row. -/
theorem part_cells {α : Type} {enc : α → List Value} {sz : Nat} {w : World} {g o : Nat} {a : Option Addr} {A : List α} (h : RowB enc sz w g o a A) (he : ∀ x, (enc x).length = sz) (h0 : 0 < A.length) : ∃ ad, a = some ad ∧ ∀ j u, (flatB enc A)[j]? = some u → w.cell? (ad.add j) = some u := by
  obtain ⟨h1, cur, T, h2, h3⟩ := h h0
  refine ⟨_, h1, fun j u hj => ?_⟩
  rw [add_plain, cell_at h2, h3 j, hj]
  have : j < (flatB enc A).length := (List.getElem?_eq_some_iff.1 hj).1
  rw [flatB_len he] at this
  exact this
end Go.Proofs.Ytnmehmlenbbfbaa
