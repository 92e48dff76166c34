/-
  Every window of a run is fine.
-/
import Derived.Test.YtifmoekgnbgnmaaWinA
namespace Go.Proofs.Ytifmoekgnbgnmaa.lease
open Go.ChangeShapes Go.WideShapes Go.ChangeAt Go.RowKit
set_option linter.unusedVariables false
set_option linter.unusedSimpArgs false

/-- What stands in a window. -/
def cw (k : Int) (p : Int × Int) : Int := if k = p.1 then p.2 else 0
theorem cur_cw (W k n t : Int) : cur W k n t = cw (t / W) (k, n) := rfl
theorem cw_at (k n : Int) : cw k (k, n) = n := if_pos rfl
theorem cw_old {k : Int} {p : Int × Int} (h : p.1 < k) : cw k p = 0 := if_neg (by omega)

def Inv (L W S : Int) (al : Prop) (r : Run) (t0 : Int) : Prop :=
  match r.last with
  | none => r.pre = [] ∧ r.side = ⟨(0, 0), fun _ => (0, 0)⟩
  | some v => v.1 = t0 / W ∧ r.side.lim.1 ≤ v.1 ∧ (∀ i, (r.side.cl i).1 ≤ v.1) ∧ (∀ u ∈ r.pre, Fine L S (S = 1 ∨ al) u) ∧
      Good L S (S = 1 ∨ al) v (cw v.1 r.side.lim) (cw v.1 (r.side.cl 0)) (cw v.1 (r.side.cl 1)) (cw v.1 (r.side.cl 2)) ∧ (al → cw v.1 (r.side.cl 1) = 0 ∧ cw v.1 (r.side.cl 2) = 0)

theorem good0 {L S : Int} {one : Prop} (hL : 1 ≤ L) (hS : 1 ≤ S) (k : Int) : Good L S one (k, 0, 0, false) 0 0 0 0 := by
  refine ⟨by simp, by simp, by omega, by omega, by omega, by omega, by omega, by omega, by omega, by omega, by simp, fun _ => ⟨by simp, Or.inl rfl⟩, fun _ _ => Or.inl rfl⟩

/-- The window of the next act, begun. -/
theorem begun_ok {L W S : Int} {al : Prop} {r : Run} {t0 t : Int} (hb : okR L W S) (ht0 : 0 ≤ t0) (h : Inv L W S al r t0) (ht : t0 ≤ t) :
    (begun r.pre r.last (t / W)).2.1 = t / W ∧ r.side.lim.1 ≤ t / W ∧ (∀ i, (r.side.cl i).1 ≤ t / W) ∧ (∀ u ∈ (begun r.pre r.last (t / W)).1, Fine L S (S = 1 ∨ al) u) ∧
    Good L S (S = 1 ∨ al) (begun r.pre r.last (t / W)).2 (cw (t / W) r.side.lim) (cw (t / W) (r.side.cl 0)) (cw (t / W) (r.side.cl 1)) (cw (t / W) (r.side.cl 2)) ∧ (al → cw (t / W) (r.side.cl 1) = 0 ∧ cw (t / W) (r.side.cl 2) = 0) := by
  obtain ⟨L0, L1, W0, W1, S0, S1⟩ := hb
  have hk : t0 / W ≤ t / W := Int.ediv_le_ediv (by omega) ht
  have hk0 : 0 ≤ t / W := Int.ediv_nonneg (by omega) (by omega)
  unfold Inv at h
  unfold begun
  cases hl : r.last with
  | none =>
    rw [hl] at h
    obtain ⟨h1, h2⟩ := h
    rw [h1, h2]
    have hz : ∀ k : Int, cw k (0, 0) = 0 := fun k => by unfold cw; split <;> rfl
    have hgg := good0 (one := S = 1 ∨ al) L0 S0 (t / W)
    refine ⟨rfl, hk0, fun _ => hk0, fun u hu => by simp at hu, ?_, fun _ => ⟨hz _, hz _⟩⟩
    show Good L S _ (t / W, 0, 0, false) (cw (t / W) (0, 0)) (cw (t / W) (0, 0)) (cw (t / W) (0, 0)) (cw (t / W) (0, 0))
    rw [hz]
    exact hgg
  | some v =>
    rw [hl] at h
    obtain ⟨h1, h2, h3, h4, h5, h6⟩ := h
    simp only
    by_cases hv : v.1 = t / W
    · rw [if_pos hv]
      rw [hv] at h2 h3 h5 h6
      exact ⟨hv, h2, h3, h4, h5, h6⟩
    · rw [if_neg hv]
      have hlt : v.1 < t / W := by omega
      rw [cw_old (show r.side.lim.1 < t / W by omega), cw_old (show (r.side.cl 0).1 < t / W by have := h3 0; omega), cw_old (show (r.side.cl 1).1 < t / W by have := h3 1; omega), cw_old (show (r.side.cl 2).1 < t / W by have := h3 2; omega)]
      refine ⟨rfl, by omega, fun i => by have := h3 i; omega, fun u hu => ?_, good0 L0 S0 _, fun _ => ⟨rfl, rfl⟩⟩
      rcases List.mem_append.1 hu with hu | hu
      · exact h4 u hu
      · simp at hu; subst hu; exact h5.fine

theorem admit_ok {L W S : Int} {lim c : Int × Int} {t : Int} (l0 : 0 ≤ cw (t / W) lim) (l1 : cw (t / W) lim ≤ L) (s0 : 1 ≤ S) (c0 : 0 ≤ cw (t / W) c) (hl : lim.1 ≤ t / W) (c1 : cw (t / W) c ≤ S - 1) :
    (admit L W S lim c t).1.1 ≤ t / W ∧ (admit L W S lim c t).2.1.1 ≤ t / W ∧
    ((admit L W S lim c t).2.2 = true ∧ cw (t / W) (admit L W S lim c t).1 - cw (t / W) lim = cw (t / W) (admit L W S lim c t).2.1 + 1 - cw (t / W) c ∧ 0 ≤ cw (t / W) (admit L W S lim c t).2.1 ∧ cw (t / W) (admit L W S lim c t).2.1 ≤ S - 1 ∧ cw (t / W) lim ≤ cw (t / W) (admit L W S lim c t).1 ∧ cw (t / W) (admit L W S lim c t).1 ≤ L ∧ (cw (t / W) lim = L → 0 < cw (t / W) c)
     ∨ (admit L W S lim c t).2.2 = false ∧ cw (t / W) c = 0 ∧ cw (t / W) (admit L W S lim c t).2.1 = 0 ∧ cw (t / W) lim = L ∧ cw (t / W) (admit L W S lim c t).1 = L) := by
  unfold admit
  rw [show cur W c.1 c.2 t = cw (t / W) c from rfl, show cur W lim.1 lim.2 t = cw (t / W) lim from rfl]
  by_cases h : 0 < cw (t / W) c
  · rw [if_pos h]
    simp only [cw_at]
    refine ⟨hl, Int.le_refl _, Or.inl ⟨by first | rfl | trivial, ?_, ?_, ?_, ?_, ?_, ?_⟩⟩ <;> omega
  · rw [if_neg h]
    have hm : lease.ask L S (cw (t / W) lim) = min S (L - cw (t / W) lim) := rfl
    generalize lease.ask L S (cw (t / W) lim) = m at hm
    simp only [cw_at]
    by_cases hm0 : 0 < m
    · rw [show less m = m - 1 from if_pos hm0]
      refine ⟨Int.le_refl _, Int.le_refl _, Or.inl ⟨decide_eq_true hm0, ?_, ?_, ?_, ?_, ?_, ?_⟩⟩ <;> omega
    · rw [show less m = m from if_neg hm0]
      refine ⟨Int.le_refl _, Int.le_refl _, Or.inr ⟨decide_eq_false hm0, by omega, by omega, by omega, by omega⟩⟩

theorem step_ok {L W S : Int} {al : Prop} {r : Run} {t0 : Int} {x : AC} (hb : okR L W S) (ht0 : 0 ≤ t0) (h : Inv L W S al r t0) (hx : okA x) (ht : t0 ≤ x.2.1) (hal : al → x.2.2 = 0) : Inv L W S al (runStep L W S r x) x.2.1 := by
  obtain ⟨b1, b2, b3, b4, b5, b6⟩ := begun_ok hb ht0 h ht
  obtain ⟨L0, L1, W0, W1, S0, S1⟩ := hb
  obtain ⟨d, t, b⟩ := x
  obtain ⟨hd, t0, t1, hb0, hb1⟩ := hx
  simp only at *
  unfold Inv runStep
  simp only
  generalize begun r.pre r.last (t / W) = pq at *
  obtain ⟨pre, v⟩ := pq
  obtain ⟨vk, va, vd, vf⟩ := v
  simp only at *
  subst b1
  obtain ⟨g1, g2, g3, g4, g5, g6, g7, g8, g9, g10, g11, g12, g13⟩ := b5
  simp only at *
  rcases hd with rfl | rfl
  · -- a client asks
    have hne : ¬ ((0 : Int) = 2) := by omega
    simp only [sideStep, winStep, if_neg hne]
    have hbb : b = 0 ∨ b = 1 ∨ b = 2 := by omega
    have hcb : 0 ≤ cw (t / W) (r.side.cl b) ∧ cw (t / W) (r.side.cl b) ≤ S - 1 := by rcases hbb with rfl | rfl | rfl <;> omega
    obtain ⟨a1, a2, a3⟩ := admit_ok (lim := r.side.lim) (c := r.side.cl b) (t := t) (W := W) g9 g10 S0 hcb.1 b2 hcb.2
    generalize admit L W S r.side.lim (r.side.cl b) t = ad at *
    obtain ⟨nl, nc, is⟩ := ad
    simp only at *
    refine ⟨by first | rfl | trivial, a1, fun i => ?_, b4, ?_, fun hh => ?_⟩
    · unfold upd; split
      · exact a2
      · exact b3 i
    · rcases hbb with rfl | rfl | rfl
      · have u0 : upd r.side.cl 0 nc 0 = nc := if_pos rfl
        have u1 : upd r.side.cl 0 nc 1 = r.side.cl 1 := if_neg (by omega)
        have u2 : upd r.side.cl 0 nc 2 = r.side.cl 2 := if_neg (by omega)
        rw [u0, u1, u2]
        rcases a3 with ⟨rfl, q1, q2, q3, q4, q5, q6⟩ | ⟨rfl, q1, q2, q3, q4⟩
        · refine ⟨?_, ?_, ?_, ?_, ?_, ?_, ?_, ?_, ?_, ?_, ?_, fun hf => ⟨?_, ?_⟩, fun ho hf => ?_⟩ <;> (try simp only [if_true]) <;> (try omega)
          · have := (g12 hf).1; omega
          · have := (g12 hf).2; omega
          · have := g13 ho hf; omega
        · refine ⟨?_, ?_, ?_, ?_, ?_, ?_, ?_, ?_, ?_, ?_, ?_, fun hf => ⟨?_, ?_⟩, fun ho hf => ?_⟩ <;> (try simp only [Bool.false_eq_true, if_false]) <;> (try omega)
          · have := (g12 hf).1; omega
          · have h1 := (g12 hf).1
            rcases ho with ho | ho
            · omega
            · have := b6 ho; omega
      · have u0 : upd r.side.cl 1 nc 1 = nc := if_pos rfl
        have u1 : upd r.side.cl 1 nc 0 = r.side.cl 0 := if_neg (by omega)
        have u2 : upd r.side.cl 1 nc 2 = r.side.cl 2 := if_neg (by omega)
        rw [u0, u1, u2]
        rcases a3 with ⟨rfl, q1, q2, q3, q4, q5, q6⟩ | ⟨rfl, q1, q2, q3, q4⟩
        · refine ⟨?_, ?_, ?_, ?_, ?_, ?_, ?_, ?_, ?_, ?_, ?_, fun hf => ⟨?_, ?_⟩, fun ho hf => ?_⟩ <;> (try simp only [if_true]) <;> (try omega)
          · have := (g12 hf).1; omega
          · have := (g12 hf).2; omega
          · have := g13 ho hf; omega
        · refine ⟨?_, ?_, ?_, ?_, ?_, ?_, ?_, ?_, ?_, ?_, ?_, fun hf => ⟨?_, ?_⟩, fun ho hf => ?_⟩ <;> (try simp only [Bool.false_eq_true, if_false]) <;> (try omega)
          · have := (g12 hf).1; omega
          · have h1 := (g12 hf).1
            rcases ho with ho | ho
            · omega
            · have := hal ho; omega
      · have u0 : upd r.side.cl 2 nc 2 = nc := if_pos rfl
        have u1 : upd r.side.cl 2 nc 0 = r.side.cl 0 := if_neg (by omega)
        have u2 : upd r.side.cl 2 nc 1 = r.side.cl 1 := if_neg (by omega)
        rw [u0, u1, u2]
        rcases a3 with ⟨rfl, q1, q2, q3, q4, q5, q6⟩ | ⟨rfl, q1, q2, q3, q4⟩
        · refine ⟨?_, ?_, ?_, ?_, ?_, ?_, ?_, ?_, ?_, ?_, ?_, fun hf => ⟨?_, ?_⟩, fun ho hf => ?_⟩ <;> (try simp only [if_true]) <;> (try omega)
          · have := (g12 hf).1; omega
          · have := (g12 hf).2; omega
          · have := g13 ho hf; omega
        · refine ⟨?_, ?_, ?_, ?_, ?_, ?_, ?_, ?_, ?_, ?_, ?_, fun hf => ⟨?_, ?_⟩, fun ho hf => ?_⟩ <;> (try simp only [Bool.false_eq_true, if_false]) <;> (try omega)
          · have := (g12 hf).1; omega
          · have h1 := (g12 hf).1
            rcases ho with ho | ho
            · omega
            · have := hal ho; omega
    · have hb0 := hal hh
      subst hb0
      have u1 : upd r.side.cl 0 nc 1 = r.side.cl 1 := if_neg (by omega)
      have u2 : upd r.side.cl 0 nc 2 = r.side.cl 2 := if_neg (by omega)
      rw [u1, u2]
      exact b6 hh
  · simp only [sideStep, winStep, if_true]
    refine ⟨by first | rfl | trivial, Int.le_refl _, b3, b4, ?_, b6⟩
    rw [cw_at]
    refine ⟨g1, g2, g3, g4, g5, g6, g7, g8, by omega, by omega, by simp only; omega, fun hf => by simp at hf, fun _ hf => by simp at hf⟩

theorem runs_ok {L W S : Int} {al : Prop} (hb : okR L W S) : ∀ (A : List AC), (∀ x ∈ A, okA x) → A.Pairwise (fun x y => x.2.1 ≤ y.2.1) → (al → ∀ x ∈ A, x.2.2 = 0) → ∀ (r : Run) (t0 : Int), 0 ≤ t0 → (∀ x ∈ A, t0 ≤ x.2.1) → Inv L W S al r t0 → ∃ t1, Inv L W S al (A.foldl (runStep L W S) r) t1
  | [], _, _, _, r, t0, _, _, h => ⟨t0, h⟩
  | x :: A, h1, h2, h3, r, t0, h0, h4, h => by
    have hx := h1 x (by simp)
    rw [List.foldl_cons]
    refine runs_ok hb A (fun y hy => h1 y (by simp [hy])) (List.pairwise_cons.1 h2).2 (fun hh y hy => h3 hh y (by simp [hy])) _ x.2.1 hx.2.1 (fun y hy => (List.pairwise_cons.1 h2).1 y hy) ?_
    exact step_ok hb h0 h hx (h4 x (by simp)) (fun hh => h3 hh x (by simp))

theorem winds_fine {L W S : Int} {al : Prop} {A : List AC} (hb : okR L W S) (hA : okAs A) (hal : al → ∀ x ∈ A, x.2.2 = 0) : ∀ v ∈ winds L W S A, Fine L S (S = 1 ∨ al) v := by
  obtain ⟨t1, h⟩ := runs_ok (al := al) hb A hA.2.1 hA.2.2 hal none0 0 (Int.le_refl 0) (fun x hx => (hA.2.1 x hx).2.1) ⟨rfl, rfl⟩
  intro v hv
  unfold winds Run.out at hv
  unfold runs at hv
  unfold Inv at h
  cases hl : (List.foldl (runStep L W S) none0 A).last with
  | none => rw [hl] at h hv; rw [h.1] at hv; simp at hv
  | some u =>
    rw [hl] at h hv
    rcases List.mem_append.1 hv with hv | hv
    · exact h.2.2.2.1 v hv
    · simp at hv; subst hv; exact h.2.2.2.2.1.fine
end Go.Proofs.Ytifmoekgnbgnmaa.lease
