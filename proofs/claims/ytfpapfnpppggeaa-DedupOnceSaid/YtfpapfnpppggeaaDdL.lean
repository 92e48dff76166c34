/-
  Package dedup: two tables beside each other.
-/
import Derived.Test.YtfpapfnpppggeaaDdK
namespace Go.Proofs.Ytfpapfnpppggeaa.dedup
open Go.ChangeShapes Go.WideShapes Go.ChangeAt Go.RowKit
set_option linter.unusedVariables false
set_option linter.unusedSimpArgs false

/-- A table that was told of W, and another one of V; and blocks of others, that both let be. -/
def Pr (w0 w : World) (p : Nat) (h n : Int) (W : List En) (p2 : Nat) (h2 n2 : Int) (V : List En) (E : List (Nat × Obj)) : Prop :=
  ∃ ks qs : Nat → Prop, St ks w p h n (leftR h n W) ∧ St qs w p2 h2 n2 (leftR h2 n2 V) ∧ (∀ k, ks k → ¬ qs k) ∧ (∀ k, ks k ∨ qs k → w0.heap.size ≤ k ∧ k < w.heap.size) ∧ Bl w0 w ∧ ∀ x ∈ E, w.heap[x.1]? = some x.2 ∧ ¬ ks x.1 ∧ ¬ qs x.1
theorem Pr.swap {w0 w p h n W p2 h2 n2 V E} (t : Pr w0 w p h n W p2 h2 n2 V E) : Pr w0 w p2 h2 n2 V p h n W E := by
  obtain ⟨ks, qs, t1, t2, t3, t4, t5, t6⟩ := t
  exact ⟨qs, ks, t2, t1, fun k a b => t3 k b a, fun k hk => t4 k hk.symm, t5, fun x hx => ⟨(t6 x hx).1, (t6 x hx).2.2, (t6 x hx).2.1⟩⟩
theorem Pr.blk {w0 w p h n W p2 h2 n2 V E} (t : Pr w0 w p h n W p2 h2 n2 V E) : Bl w0 w := by obtain ⟨_, _, _, _, _, _, h, _⟩ := t; exact h
theorem Pr.oth {w0 w p h n W p2 h2 n2 V E x} (t : Pr w0 w p h n W p2 h2 n2 V (x :: E)) : w.heap[x.1]? = some x.2 := by obtain ⟨_, _, _, _, _, _, _, h⟩ := t; exact (h x (List.mem_cons_self ..)).1
theorem Pr.bl {w0 w w' p h n W p2 h2 n2 V E} (t : Pr w0 w p h n W p2 h2 n2 V E) (hb : Bl w w') : Pr w0 w' p h n W p2 h2 n2 V E := by
  obtain ⟨ks, qs, t1, t2, t3, t4, t5, t6⟩ := t
  exact ⟨ks, qs, t1.bl hb, t2.bl hb, t3, fun k hk => ⟨(t4 k hk).1, Nat.lt_of_lt_of_le (t4 k hk).2 hb.size⟩, t5.tr hb, fun x hx => ⟨blk_bl (t6 x hx).1 hb, (t6 x hx).2⟩⟩
theorem Pr.add {w0 w w' p h n W p2 h2 n2 V E} (t : Pr w0 w p h n W p2 h2 n2 V E) (hb : Bl w w') (y : Nat) (o : Obj) (hy : w.heap.size ≤ y) (ho : w'.heap[y]? = some o) : Pr w0 w' p h n W p2 h2 n2 V ((y, o) :: E) := by
  obtain ⟨ks, qs, t1, t2, t3, t4, t5, t6⟩ := t
  refine ⟨ks, qs, t1.bl hb, t2.bl hb, t3, fun k hk => ⟨(t4 k hk).1, Nat.lt_of_lt_of_le (t4 k hk).2 hb.size⟩, t5.tr hb, fun x hx => ?_⟩
  rcases List.mem_cons.1 hx with rfl | hx
  · exact ⟨ho, fun hk => by have := (t4 _ (Or.inl hk)).2; omega, fun hk => by have := (t4 _ (Or.inr hk)).2; omega⟩
  · exact ⟨blk_bl (t6 x hx).1 hb, (t6 x hx).2⟩
theorem Pr.drop {w0 w p h n W p2 h2 n2 V x E} (t : Pr w0 w p h n W p2 h2 n2 V (x :: E)) : Pr w0 w p h n W p2 h2 n2 V E := by
  obtain ⟨ks, qs, t1, t2, t3, t4, t5, t6⟩ := t
  exact ⟨ks, qs, t1, t2, t3, t4, t5, fun x hx => t6 x (List.mem_cons_of_mem _ hx)⟩
/-- A second table, behind a first one. -/
theorem new_pr {w0 w p h n W V} (t : Two w0 w p h n W V (.slice none 0 0) []) (h2 : Int) : Calls Try.prog 11 #[I h2] w fun e w' => ∃ p2, e = .returned (ptr p2) ∧ Pr w0 w' p h n W p2 h2 0 [] [] := by
  obtain ⟨ks, t1, t2, t3, t4, t5, t6⟩ := t
  refine (new_st w h2).mono ?_
  rintro e w' ⟨p2, g1, g2, g3⟩
  exact ⟨p2, g1, ks, fun q => w.heap.size ≤ q ∧ q < w'.heap.size, t1.bl g3, g2.bound (Nat.le_refl _) (fun k hk h => ⟨hk, h⟩), fun k a b => by have := (t4 k a).2; omega,
    fun k hk => by
      rcases hk with hk | hk
      · exact ⟨(t4 k hk).1, Nat.lt_of_lt_of_le (t4 k hk).2 g3.size⟩
      · exact ⟨Nat.le_trans t5.size hk.1, hk.2⟩, t5.tr g3, fun x hx => by simp at hx⟩
theorem has_pr {w0 w p h n W p2 h2 n2 V E} (t : Pr w0 w p h n W p2 h2 n2 V E) (hR : W.length ≤ 100000) (h0 : 1 ≤ h) (h1 : h ≤ 1000000) (now : Int) (key : ByteArray) (hn : n ≤ now) :
    Calls Try.prog 13 #[ptr p, I now, sV key] w fun e w' => e = .returned (.bool (remB h now W key)) ∧ Pr w0 w' p h now W p2 h2 n2 V E := by
  obtain ⟨ks, qs, t1, t2, t3, t4, t5, t6⟩ := t
  refine (has_st t1 (by have := leftR_len (h := h) (now := n) (R := W); omega) h0 h1 now key hn).mono ?_
  rintro e w' ⟨g1, g2, g3⟩
  rw [remB_left hn] at g1
  rw [left_left hn] at g2
  exact ⟨g1, ks, qs, g2, t2.tch g3 (fun k a b => t3 k b a), t3, fun k hk => ⟨(t4 k hk).1, Nat.lt_of_lt_of_le (t4 k hk).2 g3.size⟩, t5.tch g3 (fun k hk => (t4 k (Or.inl hk)).1), fun x hx => ⟨g3.var (t6 x hx).1 (t6 x hx).2.1, (t6 x hx).2⟩⟩
theorem put_pr {w0 w p h n W p2 h2 n2 V E} (t : Pr w0 w p h n W p2 h2 n2 V E) (hR : W.length ≤ 99999) (h0 : 1 ≤ h) (h1 : h ≤ 1000000) (now : Int) (key : ByteArray) (hn : n ≤ now) (n0 : 0 ≤ now) (n1 : now ≤ 4000000000) :
    Calls Try.prog 16 #[ptr p, I now, sV key] w fun e w' => e = .returned (.bool (!remB h now W key)) ∧ Pr w0 w' p h now (putR h now W key) p2 h2 n2 V E := by
  obtain ⟨ks, qs, t1, t2, t3, t4, t5, t6⟩ := t
  refine (put_st t1 (by have := leftR_len (h := h) (now := n) (R := W); omega) h0 h1 now key hn n0 n1).mono ?_
  rintro e w' ⟨g1, g2, g3⟩
  rw [remB_left hn] at g1
  rw [left_put hn] at g2
  exact ⟨g1, grw ks w w', qs, g2, t2.tch g3 (fun k a b => t3 k b a), fun k a b => by
      rcases a.1 with h | h
      · exact t3 k h b
      · have := (t4 k (Or.inr b)).2; omega, fun k hk => by
      rcases hk with hk | hk
      · rcases hk.1 with h | h
        · exact ⟨(t4 k (Or.inl h)).1, hk.2⟩
        · exact ⟨Nat.le_trans t5.size h, hk.2⟩
      · exact ⟨(t4 k (Or.inr hk)).1, Nat.lt_of_lt_of_le (t4 k (Or.inr hk)).2 g3.size⟩, t5.tch g3 (fun k hk => (t4 k (Or.inl hk)).1), fun x hx => ⟨g3.var (t6 x hx).1 (t6 x hx).2.1, grw_not (t6 x hx).2.1 (lt_of_block (t6 x hx).1), (t6 x hx).2.2⟩⟩
theorem len_pr {w0 w p h n now W p2 h2 n2 V E} (t : Pr w0 w p h n W p2 h2 n2 V E) (hi : His h now W) (hR : W.length ≤ 100000) (h0 : 1 ≤ h) (h1 : h ≤ 1000000) (hn : n ≤ now) :
    Calls Try.prog 17 #[ptr p, I now] w fun e w' => e = .returned (I (W.countP (fun x => decide (now < x.a + h)))) ∧ Pr w0 w' p h now W p2 h2 n2 V E := by
  obtain ⟨ks, qs, t1, t2, t3, t4, t5, t6⟩ := t
  refine (len_st t1 (by have := leftR_len (h := h) (now := n) (R := W); omega) h0 h1 now hn).mono ?_
  rintro e w' ⟨g1, g2, g3⟩
  rw [left_left hn, cnt_len hi.1.left.1 (left_le hi.2) (left_alive hi.1.1), left_count hi.1.1] at g1
  rw [left_left hn] at g2
  exact ⟨g1, ks, qs, g2, t2.tch g3 (fun k a b => t3 k b a), t3, fun k hk => ⟨(t4 k hk).1, Nat.lt_of_lt_of_le (t4 k hk).2 g3.size⟩, t5.tch g3 (fun k hk => (t4 k (Or.inl hk)).1), fun x hx => ⟨g3.var (t6 x hx).1 (t6 x hx).2.1, (t6 x hx).2⟩⟩
/-- The same of the second one. -/
theorem has_pr2 {w0 w p h n W p2 h2 n2 V E} (t : Pr w0 w p h n W p2 h2 n2 V E) (hR : V.length ≤ 100000) (h0 : 1 ≤ h2) (h1 : h2 ≤ 1000000) (now : Int) (key : ByteArray) (hn : n2 ≤ now) :
    Calls Try.prog 13 #[ptr p2, I now, sV key] w fun e w' => e = .returned (.bool (remB h2 now V key)) ∧ Pr w0 w' p h n W p2 h2 now V E :=
  (has_pr t.swap hR h0 h1 now key hn).mono fun e w' ⟨g1, g2⟩ => ⟨g1, g2.swap⟩
theorem put_pr2 {w0 w p h n W p2 h2 n2 V E} (t : Pr w0 w p h n W p2 h2 n2 V E) (hR : V.length ≤ 99999) (h0 : 1 ≤ h2) (h1 : h2 ≤ 1000000) (now : Int) (key : ByteArray) (hn : n2 ≤ now) (n0 : 0 ≤ now) (n1 : now ≤ 4000000000) :
    Calls Try.prog 16 #[ptr p2, I now, sV key] w fun e w' => e = .returned (.bool (!remB h2 now V key)) ∧ Pr w0 w' p h n W p2 h2 now (putR h2 now V key) E :=
  (put_pr t.swap hR h0 h1 now key hn n0 n1).mono fun e w' ⟨g1, g2⟩ => ⟨g1, g2.swap⟩
theorem len_pr2 {w0 w p h n now W p2 h2 n2 V E} (t : Pr w0 w p h n W p2 h2 n2 V E) (hi : His h2 now V) (hR : V.length ≤ 100000) (h0 : 1 ≤ h2) (h1 : h2 ≤ 1000000) (hn : n2 ≤ now) :
    Calls Try.prog 17 #[ptr p2, I now] w fun e w' => e = .returned (I (V.countP (fun x => decide (now < x.a + h2)))) ∧ Pr w0 w' p h n W p2 h2 now V E :=
  (len_pr t.swap hi hR h0 h1 hn).mono fun e w' ⟨g1, g2⟩ => ⟨g1, g2.swap⟩
theorem three {w : World} {y : Nat} {a : Int} {k : ByteArray} {b : Bool} {t : TypeId} (h : w.heap[y]? = some (.cells #[I a, sV k, .bool b] t (0, 0))) : w.cell? ⟨y, 0, none⟩ = some (I a) ∧ w.cell? ⟨y, 1, none⟩ = some (sV k) ∧ w.cell? ⟨y, 2, none⟩ = some (.bool b) := by
  refine ⟨?_, ?_, ?_⟩ <;> (rw [cell_at h]; rfl)
theorem field_k (l : Int) (k : ByteArray) (b : Bool) (w : World) : Sem.run Try.prog (Instr.field 28 (.agg #[I l, sV k, .bool b]) 1) w = .ok (sV k) w := by rfl
theorem field_l (l : Int) (k : ByteArray) (b : Bool) (w : World) : Sem.run Try.prog (Instr.field 28 (.agg #[I l, sV k, .bool b]) 0) w = .ok (I l) w := by rfl
end Go.Proofs.Ytfpapfnpppggeaa.dedup
