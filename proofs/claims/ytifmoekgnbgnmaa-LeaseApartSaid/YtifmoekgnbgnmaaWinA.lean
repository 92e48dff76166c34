/-
  What happens in each window, as a function of the acts.
-/
import Derived.Test.YtifmoekgnbgnmaaAct24
namespace Go.Proofs.Ytifmoekgnbgnmaa.lease
open Go.ChangeShapes Go.WideShapes Go.ChangeAt Go.RowKit
set_option linter.unusedVariables false
set_option linter.unusedSimpArgs false

/-- A window: its number, how many asked, were admitted, whether it was forgotten. -/
abbrev Win : Type := Int × Int × Int × Bool
/-- The limiter, and the three clients, each with its window and what stands in it. -/
structure Side where
  lim : Int × Int
  cl : Int → Int × Int
structure Run where
  side : Side
  pre : List Win
  last : Option Win

def upd (c : Int → Int × Int) (b : Int) (v : Int × Int) : Int → Int × Int := fun i => if i = b then v else c i
/-- One client that asks. -/
def admit (L W S : Int) (lim c : Int × Int) (t : Int) : (Int × Int) × (Int × Int) × Bool :=
  if 0 < cur W c.1 c.2 t then (lim, (t / W, cur W c.1 c.2 t - 1), true)
  else ((t / W, cur W lim.1 lim.2 t + lease.ask L S (cur W lim.1 lim.2 t)), (t / W, less (lease.ask L S (cur W lim.1 lim.2 t))), decide (0 < lease.ask L S (cur W lim.1 lim.2 t)))
def sideStep (L W S : Int) (s : Side) (x : AC) : Side × Bool :=
  if x.1 = 2 then (⟨(x.2.1 / W, L), s.cl⟩, false)
  else (⟨(admit L W S s.lim (s.cl x.2.2) x.2.1).1, upd s.cl x.2.2 (admit L W S s.lim (s.cl x.2.2) x.2.1).2.1⟩, (admit L W S s.lim (s.cl x.2.2) x.2.1).2.2)
def winStep (v : Win) (x : AC) (ad : Bool) : Win :=
  if x.1 = 2 then (v.1, v.2.1, v.2.2.1, true)
  else (v.1, v.2.1 + 1, (if ad then v.2.2.1 + 1 else v.2.2.1), v.2.2.2)
/-- The window of a tick, begun if it is not the last one. -/
def begun (pre : List Win) (last : Option Win) (k : Int) : List Win × Win :=
  match last with
  | none => (pre, (k, 0, 0, false))
  | some v => if v.1 = k then (pre, v) else (pre ++ [v], (k, 0, 0, false))
def runStep (L W S : Int) (r : Run) (x : AC) : Run :=
  ⟨(sideStep L W S r.side x).1, (begun r.pre r.last (x.2.1 / W)).1, some (winStep (begun r.pre r.last (x.2.1 / W)).2 x (sideStep L W S r.side x).2)⟩
def none0 : Run := ⟨⟨(0, 0), fun _ => (0, 0)⟩, [], none⟩
def runs (L W S : Int) (A : List AC) : Run := A.foldl (runStep L W S) none0
def Run.out (r : Run) : List Win := r.pre ++ r.last.toList
def winds (L W S : Int) (A : List AC) : List Win := (runs L W S A).out

theorem runs_snoc (L W S : Int) (A : List AC) (x : AC) : runs L W S (A ++ [x]) = runStep L W S (runs L W S A) x := by
  unfold runs; rw [List.foldl_append]; rfl
theorem out_len (r : Run) (h : r.last = none → r.pre = []) : r.out = [] ↔ r.last = none := by
  unfold Run.out
  cases hl : r.last with
  | none => simp [h hl]
  | some v => simp

/-! ### What holds in every window -/
/-- A side in the window of a tick: what the limiter leased there, and what each client has. -/
def lc (W : Int) (s : Side) (t : Int) : Int := cur W s.lim.1 s.lim.2 t
def cc (W : Int) (s : Side) (i t : Int) : Int := cur W (s.cl i).1 (s.cl i).2 t
/-- Of the last window. -/
def Good (L S : Int) (one : Prop) (v : Win) (l c0 c1 c2 : Int) : Prop :=
  0 ≤ v.2.2.1 ∧ v.2.2.1 ≤ v.2.1 ∧ 0 ≤ c0 ∧ c0 ≤ S - 1 ∧ 0 ≤ c1 ∧ c1 ≤ S - 1 ∧ 0 ≤ c2 ∧ c2 ≤ S - 1 ∧ 0 ≤ l ∧ l ≤ L ∧ v.2.2.1 + c0 + c1 + c2 ≤ l ∧
  (v.2.2.2 = false → v.2.2.1 + c0 + c1 + c2 = l ∧ (v.2.2.1 = v.2.1 ∨ l = L)) ∧
  (one → v.2.2.2 = false → v.2.2.1 = v.2.1 ∨ v.2.2.1 = L)
/-- Of every window. -/
def Fine (L S : Int) (one : Prop) (v : Win) : Prop :=
  0 ≤ v.2.2.1 ∧ v.2.2.1 ≤ v.2.1 ∧ v.2.2.1 ≤ L ∧ (v.2.2.2 = false → v.2.2.1 = v.2.1 ∨ L - 3 * (S - 1) ≤ v.2.2.1) ∧ (one → v.2.2.2 = false → v.2.2.1 = v.2.1 ∨ v.2.2.1 = L)
theorem Good.fine {L S : Int} {one : Prop} {v : Win} {l c0 c1 c2 : Int} (h : Good L S one v l c0 c1 c2) : Fine L S one v := by
  obtain ⟨h1, h2, h3, h4, h5, h6, h7, h8, h9, h10, h11, h12, h13⟩ := h
  refine ⟨h1, h2, by omega, fun hf => ?_, h13⟩
  obtain ⟨q1, q2⟩ := h12 hf
  rcases q2 with q2 | q2
  · exact Or.inl q2
  · exact Or.inr (by omega)
end Go.Proofs.Ytifmoekgnbgnmaa.lease
