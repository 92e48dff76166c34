/-
  Package zones: rows of endpoints; what may turn while they are handed out.
-/
import Derived.Test.YtjajhebnafaflaaRow
import Derived.Test.YtjajhebnafaflaaOwn
import Derived.Test.YtjajhebnafaflaaKit2
import Derived.Test.YtjajhebnafaflaaTch
import Derived.RangeFuncNested
import Derived.RangeFuncBound
import Derived.RangeFuncCalls
import Derived.RangeFuncLeaves
import Derived.Shelf.Abstract
import Derived.Shelf.RegionOpen
import Derived.WalkKit
import Derived.OwnWalkIn
import Derived.TacticsInMore
import Derived.LoopNIn
import Derived.LoopIn
namespace Go.Proofs.Ytjajhebnafaflaa.zones
open Go.ChangeShapes Go.WideShapes Go.ChangeAt Go.RowKit Go.Shelf
set_option linter.unusedVariables false
set_option linter.unusedSimpArgs false
attribute [local go_sem] Oper.semAt_some

/-- An endpoint. -/
structure En where
  i : Int
  s : Int
  z : Int
abbrev eB (x : En) : List Value := [I x.i, I x.s, I x.z]
abbrev e0 : En := ⟨0, 0, 0⟩
theorem eB_len : ∀ x, (eB x).length = 3 := fun _ => rfl
abbrev ev (x : En) : Value := .agg #[I x.i, I x.s, I x.z]
abbrev oE (x : En) : Obj := .cells #[I x.i, I x.s, I x.z] 35

/-- The IDs of those of the first k of which p holds. -/
def evZ (p : En → Bool) (R : List En) : Nat → List Int
  | 0 => []
  | k + 1 => if p (R.getD k e0) then evZ p R k ++ [(R.getD k e0).i] else evZ p R k
theorem evZ_yes {p : En → Bool} {R : List En} {k : Nat} (h : p (R.getD k e0) = true) : evZ p R (k + 1) = evZ p R k ++ [(R.getD k e0).i] := by rw [evZ, if_pos h]
theorem evZ_no {p : En → Bool} {R : List En} {k : Nat} (h : p (R.getD k e0) = false) : evZ p R (k + 1) = evZ p R k := by rw [evZ, if_neg (by rw [h]; simp)]
theorem evZ_len (p : En → Bool) (R : List En) : ∀ k, (evZ p R k).length ≤ k
  | 0 => Nat.le_refl _
  | k + 1 => by
    have ih := evZ_len p R k
    cases h : p (R.getD k e0) with
    | true => rw [evZ_yes h, List.length_append, List.length_singleton]; omega
    | false => rw [evZ_no h]; omega
theorem evZ_pre (p : En → Bool) (R : List En) : ∀ {k n}, k ≤ n → evZ p R k <+: evZ p R n := by
  intro k n h
  induction n with
  | zero => obtain rfl : k = 0 := by omega
            exact List.prefix_refl _
  | succ n ih =>
    by_cases hk : k = n + 1
    · subst hk; exact List.prefix_refl _
    · refine (ih (by omega)).trans ?_
      cases h : p (R.getD n e0) with
      | true => rw [evZ_yes h]; exact List.prefix_append _ _
      | false => rw [evZ_no h]; exact List.prefix_refl _
theorem evZ_take (p : En → Bool) (R : List En) : ∀ k, k ≤ R.length → evZ p R k = ((R.take k).filter p).map En.i
  | 0, _ => rfl
  | k + 1, h => by
    have ih := evZ_take p R k (by omega)
    have ht : R.take (k + 1) = R.take k ++ [R.getD k e0] := by rw [List.take_succ_eq_append_getElem (by omega), List.getD, List.getElem?_eq_getElem (by omega)]; rfl
    rw [ht, List.filter_append, List.map_append, ← ih]
    cases h : p (R.getD k e0) with
    | true => rw [evZ_yes h, List.filter_cons_of_pos h]; rfl
    | false => rw [evZ_no h, List.filter_cons_of_neg (by rw [h]; simp)]; simp
theorem evZ_all (p : En → Bool) (R : List En) : evZ p R R.length = (R.filter p).map En.i := by rw [evZ_take p R _ (Nat.le_refl _), List.take_length]

/-- No cells below base turn but those of B. -/
structure KQ (B base : Nat) (W W' : World) : Prop where
  size : W.heap.size ≤ W'.heap.size
  same : ∀ (k : Nat) (o : Obj), k < base → W.heap[k]? = some o → o.isCells = true → k ≠ B → W'.heap[k]? = some o
theorem KQ.tr {B base : Nat} {X Y Z : World} (h : KQ B base X Y) (k : KQ B base Y Z) : KQ B base X Z := ⟨Nat.le_trans h.size k.size, fun i o hb hi ho hB => k.same i o hb (h.same i o hb hi ho hB) ho hB⟩
theorem KQ.put {B base : Nat} (W : World) (l : Nat) (o o' : Obj) (h : W.heap[l]? = some o) (ho : o.isCells = false) : KQ B base W (W.putObj l o') :=
  ⟨(grownBy_putObj' W l o').size, fun k q _ hk hq _ => ((grownBy_putObj' W l o').block k (Array.getElem?_eq_some_iff.1 hk).1 (fun e => by cases e; rw [h] at hk; cases hk; rw [ho] at hq; cases hq)).trans hk⟩
theorem KQ.bl {B base : Nat} {W W' : World} (h : Bl W W') : KQ B base W W' := ⟨h.size, fun k o _ hk _ _ => blk_bl hk h⟩
theorem KQ.al (B base : Nat) (W : World) (o : Obj) : KQ B base W (W.alloc o) := KQ.bl ((Bl.rfl' _).al o)
theorem KQ.set (B base : Nat) (W : World) (v : Value) : KQ B base W (W.setCell ⟨B, 0, none⟩ v) := ⟨by simp [World.setCell], fun k q _ hk _ hn => (Below.heap_setCell W _ _ k hn).trans hk⟩
theorem KQ.rfl' (B base : Nat) (W : World) : KQ B base W W := ⟨Nat.le_refl _, fun k q _ hk _ _ => hk⟩
theorem KQ.gby {B base : Nat} {W W' : World} {row : Option Nat} (h : W.grownBy W' row) (hr : ∀ k, row = some k → base ≤ k) : KQ B base W W' :=
  ⟨h.size, fun k o hb hk _ _ => (h.block k (lt_of_block hk) (fun e => by have := hr k e.symm; omega)).trans hk⟩

/-- A slice of endpoints, as it reads. -/
def RowZ (w : World) (g o : Nat) (a : Option Addr) (R : List En) : Prop :=
  0 < R.length → a = some ⟨g, o, none⟩ ∧ (∃ ob, w.heap[g]? = some ob ∧ ob.isCells = true) ∧ ∀ j, j < R.length * 3 → w.cell? ⟨g, o + j, none⟩ = (flatB eB R)[j]?
theorem RowZ.kept {w w' : World} {g o : Nat} {a : Option Addr} {R : List En} (h : RowZ w g o a R) (hb : ∀ x, w.heap[g]? = some x → x.isCells = true → w'.heap[g]? = some x) : RowZ w' g o a R := fun hl => by
  obtain ⟨h1, ⟨ob, h2, h3⟩, h4⟩ := h hl
  refine ⟨h1, ⟨ob, hb _ h2 h3, h3⟩, fun j hj => ?_⟩
  rw [← h4 j hj]
  unfold World.cell?
  rw [hb _ h2 h3, h2]
theorem RowZ.bl {w w' : World} {g o : Nat} {a : Option Addr} {R : List En} (h : RowZ w g o a R) (hb : Bl w w') : RowZ w' g o a R := h.kept (fun _ h _ => blk_bl h hb)
theorem RowZ.c {w : World} {g o : Nat} {a : Option Addr} {R : List En} (h : RowZ w g o a R) (i : Nat) (hi : i < R.length) : a = some ⟨g, o, none⟩ ∧ ∀ f, f < 3 → w.cell? ⟨g, o + (i * 3 + f), none⟩ = (eB (R.getD i e0))[f]? := by
  obtain ⟨h1, -, h4⟩ := h (by omega)
  refine ⟨h1, fun f hf => ?_⟩
  rw [h4 _ (by omega), flatB_get eB_len e0 f hf R i hi]
theorem RowZ.lt {w : World} {g o : Nat} {a : Option Addr} {R : List En} (h : RowZ w g o a R) (h0 : 0 < R.length) : g < w.heap.size := by
  obtain ⟨-, ⟨ob, h2, -⟩, -⟩ := h h0
  exact lt_of_block h2
theorem row_z {w : World} {g o : Nat} {a : Option Addr} {R : List En} (h : RowB eB 3 w g o a R) : RowZ w g o a R := fun hl => by
  obtain ⟨h1, cur, T, h2, h3⟩ := h hl
  exact ⟨h1, ⟨_, h2, rfl⟩, fun j hj => by rw [cell_at h2, h3 j hj]⟩
theorem KQ.row {B base : Nat} {W W' : World} {g o : Nat} {a : Option Addr} {R : List En} (h : KQ B base W W') (hr : RowZ W g o a R) (hg : g ≠ B) (hb : g < base) : RowZ W' g o a R := hr.kept (fun x h1 h2 => h.same _ _ hb h1 h2 hg)
/-- A slice of endpoints. -/
def EndsAt (w : World) (v : Value) (R : List En) : Prop := ∃ a g o cap, v = .slice a R.length cap ∧ RowZ w g o a R ∧ (R = [] ∨ g < w.heap.size) ∧ R.length ≤ 1000
theorem EndsAt.bl {w w' : World} {v : Value} {R : List En} (h : EndsAt w v R) (hb : Bl w w') : EndsAt w' v R := by
  obtain ⟨a, g, o, cap, h1, h2, h3, h4⟩ := h
  exact ⟨a, g, o, cap, h1, h2.bl hb, h3.imp id (fun h => Nat.lt_of_lt_of_le h hb.size), h4⟩
/-- A function that tells of endpoints: it stays so while what lies below base, but B, stays. -/
structure IsF (B base : Nat) (W : World) (fn : Nat) (caps : Array Value) (p : En → Bool) : Prop where
  ent : ∀ args w, (callFunc fn args).run Try.prog w = .ok (.enter fn args) w
  tells : ∀ W', KQ B base W W' → base ≤ W'.heap.size → ∀ x, Calls Try.prog fn (#[ev x] ++ caps) W' fun e W'' => e = .returned (.bool (p x)) ∧ Bl W' W''
theorem IsF.kq {B base : Nat} {W W' : World} {fn : Nat} {caps : Array Value} {p : En → Bool} (h : IsF B base W fn caps p) (hk : KQ B base W W') : IsF B base W' fn caps p := ⟨h.ent, fun X hX hb x => h.tells X (hk.tr hX) hb x⟩
theorem three {w : World} {y : Nat} {x : En} {t : TypeId} (h : w.heap[y]? = some (.cells #[I x.i, I x.s, I x.z] t (0, 0))) : w.cell? ⟨y, 0, none⟩ = some (I x.i) ∧ w.cell? ⟨y, 1, none⟩ = some (I x.s) ∧ w.cell? ⟨y, 2, none⟩ = some (I x.z) := by
  refine ⟨?_, ?_, ?_⟩ <;> (rw [cell_at h]; rfl)
end Go.Proofs.Ytjajhebnafaflaa.zones
