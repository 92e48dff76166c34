/-
  Windows have nothing to do with each other.
-/
import Derived.Test.YtifmoekgnbgnmaaWinF
namespace Go.Proofs.Ytifmoekgnbgnmaa.lease
open Go.ChangeShapes Go.WideShapes Go.ChangeAt Go.RowKit
set_option linter.unusedVariables false
set_option linter.unusedSimpArgs false

/-- Two sides that are the same from a window on. -/
def SameS (T : Int) (s s' : Side) : Prop := ∀ k, T ≤ k → cw k s.lim = cw k s'.lim ∧ ∀ i, cw k (s.cl i) = cw k (s'.cl i)
theorem SameS.mono {T U : Int} {s s' : Side} (h : SameS T s s') (hu : T ≤ U) : SameS U s s' := fun k hk => h k (by omega)
theorem admit_same {L W S : Int} {lim lim' c c' : Int × Int} {t : Int} (hl : ∀ k, t / W ≤ k → cw k lim = cw k lim') (hc : ∀ k, t / W ≤ k → cw k c = cw k c') :
    (admit L W S lim c t).2.2 = (admit L W S lim' c' t).2.2 ∧ (∀ k, t / W ≤ k → cw k (admit L W S lim c t).1 = cw k (admit L W S lim' c' t).1) ∧ (∀ k, t / W ≤ k → cw k (admit L W S lim c t).2.1 = cw k (admit L W S lim' c' t).2.1) := by
  have e1 := hl (t / W) (Int.le_refl _)
  have e2 := hc (t / W) (Int.le_refl _)
  unfold admit
  rw [show cur W c.1 c.2 t = cw (t / W) c from rfl, show cur W lim.1 lim.2 t = cw (t / W) lim from rfl, show cur W c'.1 c'.2 t = cw (t / W) c' from rfl, show cur W lim'.1 lim'.2 t = cw (t / W) lim' from rfl, ← e1, ← e2]
  by_cases h : 0 < cw (t / W) c
  · rw [if_pos h, if_pos h]
    exact ⟨rfl, hl, fun _ _ => rfl⟩
  · rw [if_neg h, if_neg h]
    exact ⟨rfl, fun _ _ => rfl, fun _ _ => rfl⟩
theorem side_same {L W S : Int} {s s' : Side} {x : AC} (h : SameS (x.2.1 / W) s s') : (sideStep L W S s x).2 = (sideStep L W S s' x).2 ∧ SameS (x.2.1 / W) (sideStep L W S s x).1 (sideStep L W S s' x).1 := by
  unfold sideStep
  by_cases hx : x.1 = 2
  · rw [if_pos hx, if_pos hx]
    exact ⟨rfl, fun k hk => ⟨rfl, (h k hk).2⟩⟩
  · rw [if_neg hx, if_neg hx]
    obtain ⟨a1, a2, a3⟩ := admit_same (L := L) (S := S) (t := x.2.1) (W := W) (fun k hk => (h k hk).1) (fun k hk => (h k hk).2 x.2.2)
    refine ⟨a1, fun k hk => ⟨a2 k hk, fun i => ?_⟩⟩
    simp only [upd]
    split
    · exact a3 k hk
    · exact (h k hk).2 i

/-- A run, and one that began later, behind what the first one had done by then. -/
def Later (L W S : Int) (P0 : List Win) (T : Int) (r r' : Run) : Prop := ∃ v, r.last = some v ∧ r'.last = some v ∧ r.pre = P0 ++ r'.pre ∧ SameS T r.side r'.side
theorem later_step {L W S : Int} {P0 : List Win} {T : Int} {r r' : Run} {x : AC} (h : Later L W S P0 T r r') (hT : T ≤ x.2.1 / W) : Later L W S P0 (x.2.1 / W) (runStep L W S r x) (runStep L W S r' x) := by
  obtain ⟨v, h1, h2, h3, h4⟩ := h
  obtain ⟨e1, e2⟩ := side_same (L := L) (S := S) (x := x) (h4.mono hT)
  refine ⟨winStep (begun r.pre r.last (x.2.1 / W)).2 x (sideStep L W S r.side x).2, rfl, ?_, ?_, e2⟩
  · show some (winStep (begun r'.pre r'.last (x.2.1 / W)).2 x (sideStep L W S r'.side x).2) = _
    rw [h1, h2, e1]
    unfold begun
    simp only
    split <;> rfl
  · show (begun r.pre r.last (x.2.1 / W)).1 = P0 ++ (begun r'.pre r'.last (x.2.1 / W)).1
    rw [h1, h2, h3]
    unfold begun
    simp only
    split
    · rfl
    · rw [List.append_assoc]
theorem later_fold {L W S : Int} (W0 : 0 < W) {P0 : List Win} : ∀ (A : List AC) (t : Int) (r r' : Run), A.Pairwise (fun x y => x.2.1 ≤ y.2.1) → (∀ x ∈ A, t ≤ x.2.1) → Later L W S P0 (t / W) r r' → ∃ T, Later L W S P0 T (A.foldl (runStep L W S) r) (A.foldl (runStep L W S) r')
  | [], t, r, r', _, _, h => ⟨_, h⟩
  | x :: A, t, r, r', hp, ht, h => by
    rw [List.foldl_cons, List.foldl_cons]
    refine later_fold W0 A x.2.1 _ _ (List.pairwise_cons.1 hp).2 (fun y hy => (List.pairwise_cons.1 hp).1 y hy) ?_
    exact later_step h (Int.ediv_le_ediv W0 (ht x (by simp)))
theorem begun_k (pre : List Win) (last : Option Win) (k : Int) : (begun pre last k).2.1 = k := by
  unfold begun
  cases last with
  | none => rfl
  | some v => simp only; split
              · next h => exact h
              · rfl
theorem winStep_k {v : Win} {k : Int} (h : v.1 = k) (x : AC) (ad : Bool) : (winStep v x ad).1 = k := by
  unfold winStep
  split <;> exact h
/-- Where a window ends, the windows behind it are those of the acts behind it. -/
theorem winds_apart {L W S : Int} (hb : okR L W S) (A B : List AC) (hA : okAs (A ++ B)) (hend : ∀ x y B', B = y :: B' → A.getLast? = some x → x.2.1 / W ≠ y.2.1 / W) : winds L W S (A ++ B) = winds L W S A ++ winds L W S B := by
  obtain ⟨hAl, hAo, hAp⟩ := hA
  cases B with
  | nil => simp [winds, runs, none0, Run.out]
  | cons y B =>
    have hb' := hb
    obtain ⟨L0, L1, W0, W1, S0, S1⟩ := hb'
    have hp := List.pairwise_append.1 hAp
    have hyo := hAo y (by simp)
    unfold winds runs
    rw [List.foldl_append]
    obtain ⟨t1, hI⟩ := runs_ok (al := False) hb A (fun x hx => hAo x (by simp [hx])) hp.1 (fun h => h.elim) none0 0 (Int.le_refl 0) (fun x hx => (hAo x (by simp [hx])).2.1) ⟨rfl, rfl⟩
    rcases List.eq_nil_or_concat A with rfl | ⟨A', x, hAx⟩
    · simp [none0, Run.out]
    · rw [List.concat_eq_append] at hAx
      subst hAx
      have hxy : x.2.1 ≤ y.2.1 := hp.2.2 x (by simp) y (by simp)
      have hne := hend x y B rfl (by simp)
      have hlt : x.2.1 / W < y.2.1 / W := by have := Int.ediv_le_ediv (show 0 < W by omega) hxy; omega
      have hr1 : ∃ v, (List.foldl (runStep L W S) none0 (A' ++ [x])).last = some v ∧ v.1 = x.2.1 / W := by
        rw [List.foldl_append]
        exact ⟨_, rfl, winStep_k (begun_k _ _ _) _ _⟩
      obtain ⟨r1, hr1'⟩ : ∃ r, List.foldl (runStep L W S) none0 (A' ++ [x]) = r := ⟨_, rfl⟩
      rw [hr1'] at hr1 hI ⊢
      obtain ⟨v, hv1, hv2⟩ := hr1
      unfold Inv at hI
      rw [hv1] at hI
      simp only at hI
      obtain ⟨_, i2, i3, _⟩ := hI
      have hz : ∀ k : Int, cw k (0, 0) = 0 := fun k => by unfold cw; split <;> rfl
      have hsm : SameS (y.2.1 / W) r1.side none0.side := fun k hk => by
        refine ⟨?_, fun i => ?_⟩
        · rw [cw_old (show r1.side.lim.1 < k by omega)]; exact (hz k).symm
        · rw [cw_old (show (r1.side.cl i).1 < k by have := i3 i; omega)]; exact (hz k).symm
      obtain ⟨e1, e2⟩ := side_same (L := L) (S := S) (x := y) hsm
      have hbg : begun r1.pre r1.last (y.2.1 / W) = (r1.pre ++ [v], (y.2.1 / W, 0, 0, false)) := by
        rw [hv1]; unfold begun; simp only; rw [if_neg (by omega)]
      have hout : r1.out = r1.pre ++ [v] := by unfold Run.out; rw [hv1]; rfl
      rw [List.foldl_cons, List.foldl_cons]
      have hL : Later L W S r1.out (y.2.1 / W) (runStep L W S r1 y) (runStep L W S none0 y) := by
        refine ⟨winStep (y.2.1 / W, 0, 0, false) y (sideStep L W S r1.side y).2, ?_, ?_, ?_, e2⟩
        · show some (winStep (begun r1.pre r1.last (y.2.1 / W)).2 y _) = _
          rw [hbg]
        · show some (winStep (y.2.1 / W, 0, 0, false) y (sideStep L W S none0.side y).2) = _
          rw [e1]
        · show (begun r1.pre r1.last (y.2.1 / W)).1 = r1.out ++ []
          rw [hbg, hout, List.append_nil]
      obtain ⟨T, u, u1, u2, u3, _⟩ := later_fold (show 0 < W by omega) B y.2.1 _ _ (List.pairwise_cons.1 hp.2.1).2 (fun z hz => (List.pairwise_cons.1 hp.2.1).1 z hz) hL
      show Run.out _ = r1.out ++ Run.out _
      unfold Run.out at u3 ⊢
      rw [u1, u2, u3]
      simp [Run.out]
end Go.Proofs.Ytifmoekgnbgnmaa.lease
