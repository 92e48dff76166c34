/-
  Package dedup: a table and the document's row beside each other.
-/
import Derived.Test.YtfpapfnpppggeaaDdJ
namespace Go.Proofs.Ytfpapfnpppggeaa.dedup
open Go.ChangeShapes Go.WideShapes Go.ChangeAt Go.RowKit
set_option linter.unusedVariables false
set_option linter.unusedSimpArgs false

theorem tch_row {w w' : World} {row : Option Nat} (g : w.grownBy w' row) : Tch (fun k => row = some k) w w' :=
  ⟨g.os, g.tape, g.output, g.size, fun k hk hn => g.block k hk (fun e => hn e.symm)⟩
/-- A table that was told of W, and a row that holds V; and blocks of others, that both let be. -/
def Two (w0 w : World) (p : Nat) (h now : Int) (W V : List En) (vw : Value) (E : List (Nat × Obj)) : Prop :=
  ∃ ks : Nat → Prop, St ks w p h now (leftR h now W) ∧ Rw w w0.heap.size vw V ∧ (∀ q, vw.ownBlock = some q → ¬ ks q) ∧ (∀ q, ks q → w0.heap.size ≤ q ∧ q < w.heap.size) ∧ Bl w0 w ∧ ∀ x ∈ E, w.heap[x.1]? = some x.2 ∧ ¬ ks x.1 ∧ vw.ownBlock ≠ some x.1
/-- What was put, up to now. -/
def His (h now : Int) (W : List En) : Prop := InvR h W ∧ ∀ x ∈ W, x.a ≤ now
theorem His.le {h a b : Int} {W : List En} (i : His h a W) (hab : a ≤ b) : His h b W := ⟨i.1, fun x hx => Int.le_trans (i.2 x hx) hab⟩
theorem His.put {h a b : Int} {W : List En} (i : His h a W) (hab : a ≤ b) (n0 : 0 ≤ b) (n1 : b ≤ 4000000000) (key : ByteArray) : His h b (putR h b W key) := ⟨putR_inv i.1 i.2 hab n0 n1, putR_le i.2 hab⟩
theorem His.any {h a : Int} {W : List En} (i : His h a W) (key : ByteArray) : W.any (inF h a key) = remB h a W key := (rem_any i.1.1 i.2 key).symm
theorem Two.blk {w0 w p h now W V vw E} (t : Two w0 w p h now W V vw E) : Bl w0 w := by obtain ⟨_, _, _, _, _, h, _⟩ := t; exact h
theorem Two.rw' {w0 w p h now W V vw E} (t : Two w0 w p h now W V vw E) : Rw w w0.heap.size vw V := by obtain ⟨_, _, h, _⟩ := t; exact h
theorem Two.oth {w0 w p h now W V vw E x} (t : Two w0 w p h now W V vw (x :: E)) : w.heap[x.1]? = some x.2 := by obtain ⟨_, _, _, _, _, _, h⟩ := t; exact (h x (List.mem_cons_self ..)).1
theorem Two.bl {w0 w w' p h now W V vw E} (t : Two w0 w p h now W V vw E) (hb : Bl w w') : Two w0 w' p h now W V vw E := by
  obtain ⟨ks, h1, h2, h3, h4, h5, h6⟩ := t
  exact ⟨ks, h1.bl hb, h2.bl hb, h3, fun q hq => ⟨(h4 q hq).1, Nat.lt_of_lt_of_le (h4 q hq).2 hb.size⟩, h5.tr hb, fun x hx => ⟨blk_bl (h6 x hx).1 hb, (h6 x hx).2⟩⟩
theorem Two.add {w0 w w' p h now W V vw E} (t : Two w0 w p h now W V vw E) (hb : Bl w w') (y : Nat) (o : Obj) (hy : w.heap.size ≤ y) (ho : w'.heap[y]? = some o) : Two w0 w' p h now W V vw ((y, o) :: E) := by
  have hr := t.rw'
  have t' := t.bl hb
  obtain ⟨ks, h1, h2, h3, h4, h5, h6⟩ := t
  refine ⟨ks, h1.bl hb, h2.bl hb, h3, fun q hq => ⟨(h4 q hq).1, Nat.lt_of_lt_of_le (h4 q hq).2 hb.size⟩, h5.tr hb, fun x hx => ?_⟩
  rcases List.mem_cons.1 hx with rfl | hx
  · exact ⟨ho, fun hk => by have := (h4 _ hk).2; omega, fun hk => by have := (World.ownsRow.lt hr _ hk).2; omega⟩
  · exact ⟨blk_bl (h6 x hx).1 hb, (h6 x hx).2⟩
theorem Two.drop {w0 w p h now W V vw x E} (t : Two w0 w p h now W V vw (x :: E)) : Two w0 w p h now W V vw E := by
  obtain ⟨ks, h1, h2, h3, h4, h5, h6⟩ := t
  exact ⟨ks, h1, h2, h3, h4, h5, fun x hx => h6 x (List.mem_cons_of_mem _ hx)⟩
theorem putR_len' {h now : Int} {R : List En} {key : ByteArray} : (putR h now R key).length ≤ R.length + 1 := by
  unfold putR
  split
  · omega
  · simp
theorem new_two (w0 w : World) (hb : Bl w0 w) (h : Int) : Calls Try.prog 11 #[I h] w fun e w' => ∃ p, e = .returned (ptr p) ∧ Two w0 w' p h 0 [] [] (.slice none 0 0) [] :=
  (new_st w h).mono fun e w' ⟨p, h1, h2, h3⟩ => ⟨p, h1, fun q => w.heap.size ≤ q ∧ q < w'.heap.size, h2.bound (Nat.le_refl _) (fun k hk h => ⟨hk, h⟩), OwnB.nil _ _ _, fun q hq => by simp [Value.ownBlock] at hq, fun q hq => ⟨Nat.le_trans hb.size hq.1, hq.2⟩, hb.tr h3, fun x hx => by simp at hx⟩
theorem has_two {w0 w p h now0 W V vw E} (t : Two w0 w p h now0 W V vw E) (hR : W.length ≤ 100000) (h0 : 1 ≤ h) (h1 : h ≤ 1000000) (now : Int) (key : ByteArray) (hn : now0 ≤ now) :
    Calls Try.prog 13 #[ptr p, I now, sV key] w fun e w' => e = .returned (.bool (remB h now W key)) ∧ Two w0 w' p h now W V vw E := by
  obtain ⟨ks, t1, t2, t3, t4, t5, t6⟩ := t
  refine (has_st t1 (by have := leftR_len (h := h) (now := now0) (R := W); omega) h0 h1 now key hn).mono ?_
  rintro e w' ⟨g1, g2, g3⟩
  rw [remB_left hn] at g1
  rw [left_left hn] at g2
  exact ⟨g1, ks, g2, own_tch t2 g3 t3, t3, fun q hq => ⟨(t4 q hq).1, Nat.lt_of_lt_of_le (t4 q hq).2 g3.size⟩, t5.tch g3 (fun q hq => (t4 q hq).1), fun x hx => ⟨g3.var (t6 x hx).1 (t6 x hx).2.1, (t6 x hx).2.1, (t6 x hx).2.2⟩⟩
theorem put_two {w0 w p h now0 W V vw E} (t : Two w0 w p h now0 W V vw E) (hR : W.length ≤ 99999) (h0 : 1 ≤ h) (h1 : h ≤ 1000000) (now : Int) (key : ByteArray) (hn : now0 ≤ now) (n0 : 0 ≤ now) (n1 : now ≤ 4000000000) :
    Calls Try.prog 16 #[ptr p, I now, sV key] w fun e w' => e = .returned (.bool (!remB h now W key)) ∧ Two w0 w' p h now (putR h now W key) V vw E := by
  obtain ⟨ks, t1, t2, t3, t4, t5, t6⟩ := t
  refine (put_st t1 (by have := leftR_len (h := h) (now := now0) (R := W); omega) h0 h1 now key hn n0 n1).mono ?_
  rintro e w' ⟨g1, g2, g3⟩
  rw [remB_left hn] at g1
  rw [left_put hn] at g2
  have hlt := fun q (h : vw.ownBlock = some q) => (World.ownsRow.lt t2 q h).2
  exact ⟨g1, grw ks w w', g2, own_tch t2 g3 t3, fun q hq => grw_not (t3 q hq) (hlt q hq), fun q hq => ⟨by
    rcases hq.1 with h | h
    · exact (t4 q h).1
    · have := t5.size; omega, hq.2⟩, t5.tch g3 (fun q hq => (t4 q hq).1), fun x hx => ⟨g3.var (t6 x hx).1 (t6 x hx).2.1, grw_not (t6 x hx).2.1 (lt_of_block (t6 x hx).1), (t6 x hx).2.2⟩⟩
theorem len_two {w0 w p h now0 now W V vw E} (t : Two w0 w p h now0 W V vw E) (hi : His h now W) (hR : W.length ≤ 100000) (h0 : 1 ≤ h) (h1 : h ≤ 1000000) (hn : now0 ≤ now) :
    Calls Try.prog 17 #[ptr p, I now] w fun e w' => e = .returned (I (W.countP (fun x => decide (now < x.a + h)))) ∧ Two w0 w' p h now W V vw E := by
  obtain ⟨ks, t1, t2, t3, t4, t5, t6⟩ := t
  refine (len_st t1 (by have := leftR_len (h := h) (now := now0) (R := W); omega) h0 h1 now hn).mono ?_
  rintro e w' ⟨g1, g2, g3⟩
  rw [left_left hn, cnt_len hi.1.left.1 (left_le hi.2) (left_alive hi.1.1), left_count hi.1.1] at g1
  rw [left_left hn] at g2
  exact ⟨g1, ks, g2, own_tch t2 g3 t3, t3, fun q hq => ⟨(t4 q hq).1, Nat.lt_of_lt_of_le (t4 q hq).2 g3.size⟩, t5.tch g3 (fun q hq => (t4 q hq).1), fun x hx => ⟨g3.var (t6 x hx).1 (t6 x hx).2.1, (t6 x hx).2.1, (t6 x hx).2.2⟩⟩
/-- The document's Put beside the table. -/
theorem rput_two {w0 w p h now0 now W V vw E} (t : Two w0 w p h now0 W V vw E) (hi : His h now V) (hR : V.length ≤ 100000) (h0 : 1 ≤ h) (h1 : h ≤ 1000000) (key : ByteArray) :
    Calls Try.prog 15 #[vw, I h, I now, sV key] w fun e w' => ∃ v', e = .returned (.tuple #[v', .bool (!remB h now V key)]) ∧ Two w0 w' p h now0 W (putR h now V key) v' E := by
  obtain ⟨ks, t1, t2, t3, t4, t5, t6⟩ := t
  refine (rput_any t2 hi.1.2 (by omega) t5.size h (by omega) h1 now key).mono ?_
  rintro e w' ⟨v', g1, g2, g3, g4⟩
  rw [hi.any] at g1 g2
  refine ⟨v', g1, ks, t1.tch (tch_row g3) (fun q h1 h2 => t3 q h2 h1), g2, fun q hq hk => ?_, fun q hq => ⟨(t4 q hq).1, Nat.lt_of_lt_of_le (t4 q hq).2 g3.size⟩, t5.grown g3 (fun q hq => (World.ownsRow.lt t2 q hq).1), fun x hx => ⟨blk_row (t6 x hx).1 g3 (t6 x hx).2.2, (t6 x hx).2.1, fun hk => ?_⟩⟩
  · rcases g4 q hq with h | h
    · exact t3 q h hk
    · have := (t4 q hk).2; omega
  · rcases g4 _ hk with h | h
    · exact (t6 x hx).2.2 h
    · have := lt_of_block (t6 x hx).1; omega
theorem rhas_two {w0 w p h now0 now W V vw E} (t : Two w0 w p h now0 W V vw E) (hi : His h now V) (hR : V.length ≤ 100000) (h0 : 1 ≤ h) (h1 : h ≤ 1000000) (key : ByteArray) :
    Calls Try.prog 14 #[vw, I h, I now, sV key] w fun e w' => e = .returned (.bool (remB h now V key)) ∧ w = w' := by
  have := rhas_any t.rw' hi.1.2 (by omega) h (by omega) h1 now key
  rw [hi.any] at this
  exact this
theorem rlen_two {w0 w p h now0 now W V vw E} (t : Two w0 w p h now0 W V vw E) (hi : His h now V) (hR : V.length ≤ 100000) (h0 : 1 ≤ h) (h1 : h ≤ 1000000) :
    Calls Try.prog 18 #[vw, I h, I now] w fun e w' => e = .returned (I (V.countP (fun x => decide (now < x.a + h)))) ∧ w = w' :=
  rlen_any t.rw' hi.1.2 (by omega) h (by omega) h1 now
end Go.Proofs.Ytfpapfnpppggeaa.dedup
