/-
  The law's windows: the row of what happens in each window.
-/
import Derived.Test.YtifmoekgnbgnmaaWinC
import Derived.Deep.RegionWith
import Derived.Deep.CutRange
namespace Go.Proofs.Ytifmoekgnbgnmaa.lease
open Go.ChangeShapes Go.WideShapes Go.ChangeAt Go.RowKit
set_option linter.unusedVariables false
set_option linter.unusedSimpArgs false

structure Made (w0 : World) (L W S : Int) (w : World) (ps : List Nat) : Prop where
  bl : Bl w0 w
  all : ∀ p ∈ ps, w0.heap.size ≤ p ∧ LB 66 w p L W S 0 0
  nd : ps.Nodup
theorem Made.more {w0 w w' : World} {L W S : Int} {ps : List Nat} {p : Nat} (h : Made w0 L W S w ps) (hp : w.heap.size ≤ p) (hl : LB 66 w' p L W S 0 0) (hb : Bl w w') : Made w0 L W S w' (p :: ps) := by
  refine ⟨h.bl.tr hb, fun q hq => ?_, List.nodup_cons.2 ⟨fun hm => ?_, h.nd⟩⟩
  · rcases List.mem_cons.1 hq with rfl | hq
    · exact ⟨by have := h.bl.size; omega, hl⟩
    · exact ⟨(h.all q hq).1, (h.all q hq).2.bl hb⟩
  · have := (h.all p hm).2.lt; omega
theorem Made.step {w0 w w' : World} {L W S : Int} {ps : List Nat} (h : Made w0 L W S w ps) (hb : Bl w w') : Made w0 L W S w' ps := ⟨h.bl.tr hb, fun q hq => ⟨(h.all q hq).1, (h.all q hq).2.bl hb⟩, h.nd⟩

/-- Three clients, and their row. -/
def Three (w0 : World) (L W S : Int) (cv : Value) (w : World) : Prop := ∃ (cs : Nat) (pp : Nat → Nat), cv = .slice (some ⟨cs, 0, none⟩) 3 3 ∧ w.heap[cs]? = some (.cells #[ptr (pp 0), ptr (pp 1), ptr (pp 2)] 35 (0, 0)) ∧ Bl w0 w ∧
  w0.heap.size ≤ cs ∧ (∀ i, i < 3 → w0.heap.size ≤ pp i ∧ pp i < cs ∧ LB 66 w (pp i) L W S 0 0) ∧ ∀ i j, i < 3 → j < 3 → pp i = pp j → i = j

theorem three_mk {w0 w : World} {L W S : Int} {p q r : Nat} (M : Made w0 L W S w [r, q, p]) : Three w0 L W S (.slice (some ⟨w.heap.size, 0, none⟩) 3 3) (w.alloc (.cells #[ptr p, ptr q, ptr r] 35)) := by
  obtain ⟨hb, ha, hn⟩ := M
  have hp := ha p (by simp); have hq := ha q (by simp); have hr := ha r (by simp)
  simp at hn
  have lp := hp.2.lt; have lq := hq.2.lt; have lr := hr.2.lt
  refine ⟨w.heap.size, fun i => if i = 0 then p else if i = 1 then q else r, rfl, heap_alloc_new _ _, hb.al _, hb.size, fun i hi => ?_, fun i j hi hj h => ?_⟩
  · have hi' : i = 0 ∨ i = 1 ∨ i = 2 := by omega
    rcases hi' with rfl | rfl | rfl
    · exact ⟨hp.1, lp, hp.2.bl ((Bl.rfl' _).al _)⟩
    · exact ⟨hq.1, lq, hq.2.bl ((Bl.rfl' _).al _)⟩
    · exact ⟨hr.1, lr, hr.2.bl ((Bl.rfl' _).al _)⟩
  · have hi' : i = 0 ∨ i = 1 ∨ i = 2 := by omega
    have hj' : j = 0 ∨ j = 1 ∨ j = 2 := by omega
    rcases hi' with rfl | rfl | rfl <;> rcases hj' with rfl | rfl | rfl <;> simp at h <;> first | rfl | (exfalso; omega)

def flatW : List Win → List Value
  | [] => []
  | v :: A => I v.1 :: I v.2.1 :: I v.2.2.1 :: .bool v.2.2.2 :: flatW A
theorem flatW_app : ∀ A B, flatW (A ++ B) = flatW A ++ flatW B
  | [], _ => rfl
  | v :: A, B => by simp only [List.cons_append, flatW, flatW_app A B]
theorem flatW_len : ∀ A, (flatW A).length = A.length * 4
  | [] => rfl
  | v :: A => by simp only [flatW, List.length_cons, flatW_len A]; omega
theorem flatW_last (pre : List Win) (v : Win) : (flatW (pre ++ [v]))[pre.length * 4]? = some (I v.1) ∧ (flatW (pre ++ [v]))[pre.length * 4 + 1]? = some (I v.2.1) ∧ (flatW (pre ++ [v]))[pre.length * 4 + 2]? = some (I v.2.2.1) ∧ (flatW (pre ++ [v]))[pre.length * 4 + 3]? = some (.bool v.2.2.2) := by
  rw [flatW_app, ← flatW_len pre]
  refine ⟨?_, ?_, ?_, ?_⟩ <;> simp [flatW]
theorem flatW_set (pre : List Win) (v u : Win) : ((((flatW (pre ++ [v])).set (pre.length * 4) (I u.1)).set (pre.length * 4 + 1) (I u.2.1)).set (pre.length * 4 + 2) (I u.2.2.1)).set (pre.length * 4 + 3) (.bool u.2.2.2) = flatW (pre ++ [u]) := by
  rw [flatW_app, flatW_app, ← flatW_len pre]
  simp [flatW]

structure PlW (w0 : World) (x pL cs b0 : Nat) (pp : Nat → Nat) : Prop where
  o0 : w0.heap.size ≤ x
  o1 : x < pL
  o2 : ∀ i, i < 3 → pL < pp i ∧ pp i < cs
  o3 : cs < b0
  inj : ∀ i j, i < 3 → j < 3 → pp i = pp j → i = j
structure SW (w0 : World) (L W S : Int) (x pL cs : Nat) (pp : Nat → Nat) (w : World) (s : Side) : Prop where
  hx : w.heap[x]? = some (.cells #[I L, I W, I S] 23 (0, 0))
  hL : LB 65 w pL L W S s.lim.1 s.lim.2
  hC : ∀ i, i < 3 → LB 66 w (pp i) L W S (s.cl i).1 (s.cl i).2
  hcs : w.heap[cs]? = some (.cells #[ptr (pp 0), ptr (pp 1), ptr (pp 2)] 35 (0, 0))
  bl : Bl w0 w
theorem SW.step {w0 w w' : World} {L W S : Int} {x pL cs : Nat} {pp : Nat → Nat} {s : Side} (h : SW w0 L W S x pL cs pp w s) (hb : Bl w w') : SW w0 L W S x pL cs pp w' s :=
  ⟨var_bl h.hx hb, h.hL.bl hb, fun i hi => (h.hC i hi).bl hb, var_bl h.hcs hb, h.bl.tr hb⟩
/-- A block that is none of these turned. -/
theorem SW.far {w0 w w' : World} {L W S : Int} {x pL cs b0 : Nat} {pp : Nat → Nat} {s : Side} (h : SW w0 L W S x pL cs pp w s) (P : PlW w0 x pL cs b0 pp) {q : Nat} (hg : w.grownBy w' (some q)) (hq : b0 ≤ q) : SW w0 L W S x pL cs pp w' s := by
  have h1 := P.o0; have h2 := P.o1; have h3 := P.o3; have h4 := P.o2 0 (by omega)
  refine ⟨var_gby h.hx hg (by omega), h.hL.gby hg (by omega), fun i hi => (h.hC i hi).gby hg (by have := P.o2 i hi; omega), var_gby h.hcs hg (by omega), h.bl.gp hg (by omega)⟩
theorem SW.lim {w0 w w' : World} {L W S : Int} {x pL cs b0 : Nat} {pp : Nat → Nat} {s : Side} (h : SW w0 L W S x pL cs pp w s) (P : PlW w0 x pL cs b0 pp) {k n : Int} (hl : LB 65 w' pL L W S k n) (hg : w.grownBy w' (some pL)) : SW w0 L W S x pL cs pp w' ⟨(k, n), s.cl⟩ := by
  have h1 := P.o0; have h2 := P.o1; have h3 := P.o3; have h4 := P.o2 0 (by omega)
  refine ⟨var_gby h.hx hg (by omega), hl, fun i hi => (h.hC i hi).gby hg (by have := P.o2 i hi; omega), var_gby h.hcs hg (by omega), h.bl.gp hg (by omega)⟩
theorem SW.adm {w0 w w' : World} {L W S : Int} {x pL cs b0 : Nat} {pp : Nat → Nat} {s : Side} (h : SW w0 L W S x pL cs pp w s) (P : PlW w0 x pL cs b0 pp) {b : Nat} (hb : b < 3) {l c : Int × Int} (hl : LB 65 w' pL L W S l.1 l.2) (hc : LB 66 w' (pp b) L W S c.1 c.2) (hg : Tch (fun k => k = pL ∨ k = pp b) w w') : SW w0 L W S x pL cs pp w' ⟨l, upd s.cl b c⟩ := by
  have h1 := P.o0; have h2 := P.o1; have h3 := P.o3; have h4 := P.o2 b hb
  refine ⟨hg.var h.hx (by omega), hl, fun i hi => ?_, hg.var h.hcs (by omega), h.bl.tch hg (fun k hk => by omega)⟩
  by_cases hib : i = b
  · subst hib
    show LB _ w' (pp i) L W S (upd s.cl i c i).1 (upd s.cl i c i).2
    rw [show upd s.cl i c i = c from if_pos rfl]
    exact hc
  · show LB _ w' (pp i) L W S (upd s.cl b c i).1 (upd s.cl b c i).2
    rw [show upd s.cl b c i = s.cl i from if_neg (by omega)]
    refine (h.hC i hi).tch hg (fun hh => ?_)
    rcases hh with hh | hh
    · have := P.o2 i hi; omega
    · exact hib (P.inj i b hi hb hh)
def SB (L : Int) (s : Side) : Prop := 0 ≤ s.lim.2 ∧ s.lim.2 ≤ L ∧ ∀ i, 0 ≤ (s.cl i).2 ∧ (s.cl i).2 ≤ 1000
theorem SB.step {L W S : Int} {s : Side} (hb : okR L W S) (h : SB L s) (x : AC) : SB L (sideStep L W S s x).1 := by
  obtain ⟨h1, h2, h3⟩ := h
  have hb' := hb
  obtain ⟨l0, l1, w0, w1, s0, s1⟩ := hb'
  unfold sideStep
  split
  · exact ⟨by simp only; omega, Int.le_refl _, h3⟩
  · have hc := h3 x.2.2
    have c1 := cur_bd (W := W) (k := s.lim.1) (t := x.2.1) h1 h2
    have c2 := cur_bd (W := W) (k := (s.cl x.2.2).1) (t := x.2.1) hc.1 hc.2
    have am := ask_bd hb c1.1 c1.2
    unfold admit
    split
    · refine ⟨h1, h2, fun i => ?_⟩
      simp only [upd]; split
      · simp only; omega
      · exact h3 i
    · refine ⟨by simp only; omega, by simp only; omega, fun i => ?_⟩
      simp only [upd]; split
      · simp only [less]; split <;> omega
      · exact h3 i
theorem own_pos {w : World} {base n size : Nat} {e : TypeId} {v : Value} {xs : List Value} (h : w.ownsRow base e size v n xs) (hn : 0 < n) : ∃ b cap, v = .slice (some ⟨b, 0, none⟩) n cap ∧ base ≤ b := by
  have hlt := h.lt
  obtain ⟨_, h2⟩ := h
  rcases h2 with ⟨_, h0⟩ | ⟨g, cap, cur, rfl, h3, h4, h5, h6, _⟩
  · omega
  · exact ⟨g, cap, rfl, h3⟩
theorem own_zero {w : World} {base size : Nat} {e : TypeId} {v : Value} {xs : List Value} (h : w.ownsRow base e size v 0 xs) : ∃ a cap, v = .slice a 0 cap := by
  obtain ⟨_, h2⟩ := h
  rcases h2 with ⟨rfl, _⟩ | ⟨g, cap, cur, rfl, _⟩
  · exact ⟨_, _, rfl⟩
  · exact ⟨_, _, rfl⟩

end Go.Proofs.Ytifmoekgnbgnmaa.lease
