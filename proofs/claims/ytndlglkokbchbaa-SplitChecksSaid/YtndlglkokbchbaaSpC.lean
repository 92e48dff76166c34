/-
  Package split: behind, Sum.
-/
import Derived.Test.YtndlglkokbchbaaSpB
namespace Go.Proofs.Ytndlglkokbchbaa.split
open Go.ChangeShapes Go.WideShapes Go.ChangeAt Go.RowKit Go.Shelf
set_option linter.unusedVariables false
set_option linter.unusedSimpArgs false
attribute [local go_sem] Oper.semAt_some

theorem behind_any (a : Option Addr) (L cap : Nat) (w : World) : Calls Try.prog 24 #[.slice a L cap] w fun e w' => e = .returned (.func (.func 26) #[] #[.pointer (some ⟨w.heap.size, 0, none⟩)]) ∧ w' = w.alloc (.cells #[.slice a L cap] 22) := by
  go_enter Try.func24, Try.ntmps24
  go_wp2_with fail
  go_ret
  exact ⟨rfl, rfl⟩

def sumF (l : List (Int × Pt)) : Int := match l.getLast? with
  | none => 0
  | some x => wrap64 (x.1 + x.2.w)
theorem sumF_snoc (l : List (Int × Pt)) (x : Int × Pt) : sumF (l ++ [x]) = wrap64 (x.1 + x.2.w) := by
  unfold sumF
  simp
theorem sumF_all {R : List Pt} (h : okP R) : ∀ n, n ≤ R.length → sumF (evP R n) = ahd R n
  | 0, _ => rfl
  | n + 1, hn => by
    have h1 := h.ahd n
    have h2 := h.at n
    have h3 := h.2
    simp only [evP, sumF_snoc, ahd]
    unfold wrap64
    omega

/-- A slice of parts. -/
def PartsAt (w : World) (v : Value) (R : List Pt) : Prop := ∃ a g o cap, v = .slice a R.length cap ∧ RowZ w g o a R ∧ (R = [] ∨ g < w.heap.size) ∧ okP R
theorem PartsAt.bl {w w' : World} {v : Value} {R : List Pt} (h : PartsAt w v R) (hb : Bl w w') : PartsAt w' v R := by
  obtain ⟨a, g, o, cap, h1, h2, h3, h4⟩ := h
  exact ⟨a, g, o, cap, h1, h2.bl hb, h3.imp id (fun h => Nat.lt_of_lt_of_le h hb.size), h4⟩
/-- The row lies in some block that is not B, of a world that is greater. -/
theorem row_at {w W0 : World} {g o B : Nat} {a : Option Addr} {R : List Pt} (hr : RowZ w g o a R) (hg : R = [] ∨ g < w.heap.size) (hb : Bl w W0) (hB : w.heap.size ≤ B) (hs : B + 1 < W0.heap.size) : ∃ g, g ≠ B ∧ g < W0.heap.size ∧ RowZ W0 g o a R := by
  rcases hg with rfl | hg
  · exact ⟨B + 1, by omega, hs, fun h => by simp at h⟩
  · exact ⟨g, by omega, by omega, hr.bl hb⟩
theorem behind_stops (n : Nat) (hn : 1 ≤ n) (Bn B g o cap : Nat) (a : Option Addr) (R : List Pt) (hR : okP R) (w : World) (hBn : Bn < w.heap.size) (hgB : g ≠ B) (hg : g < w.heap.size) (hB : B < w.heap.size)
    (hc : w.cell? ⟨Bn, 0, none⟩ = some (.slice a R.length cap)) (hr : RowZ w g o a R) :
    SeqStopsK Fence.wide n Try.prog 26 #[.pointer (some ⟨Bn, 0, none⟩)] encP (KB B) (fun xs => xs = evP R R.length) (fun pre => pre <+: evP R R.length) R.length w := fun l J Jx W hW hJ _ hY h0 =>
  behind1_in n hn l Bn B g o cap a R hR J Jx W hJ hgB (Nat.lt_of_lt_of_le hB hW.size) ((hW.cell (p := ⟨Bn, 0, none⟩) hBn).trans hc) (hr.kept (fun x hx _ => (hW.block g hg).trans hx)) hY h0

set_option maxRecDepth 100000 in
set_option maxHeartbeats 4000000 in
theorem sum_any (v : Value) (R : List Pt) (w : World) (hv : PartsAt w v R) : Calls Try.prog 12 #[v] w fun e w' => e = .returned (I (ahd R R.length)) ∧ Bl w w' := by
  obtain ⟨a, g, o, cap, rfl, hr, hg, hR⟩ := hv
  refine (callsIn_wide (n := 6)).1 ?_
  refine callsIn_of_wp_marks Try.func12 rfl trivial ?_ rfl
  simp only [Try.ntmps12, List.size_toArray, List.length_cons, List.length_nil, Nat.reduceAdd, Nat.reduceSub, Array.replicate_succ, Array.replicate_zero, List.push_toArray, List.append_toArray, List.nil_append, List.cons_append]
  gi_wp2_with (refine ⟨trivial, ?_⟩; gi_at_call 24; refine (callsIn_wide.2 (behind_any _ _ _ _)).mono ?_; rintro e w' ⟨rfl, rfl⟩)
  have bS := (Boxed.new w 3 (I 0)).alloc (.cells #[.slice a R.length cap] 22)
  have bL := Boxed.new (w.alloc (.cells #[I 0] 3)) 22 (.slice a R.length cap)
  simp only [World.size_alloc] at bL
  have hB0 : Below w.heap.size w ((w.alloc (.cells #[I 0] 3)).alloc (.cells #[.slice a R.length cap] 22)) := ((Below.refl _ w).alloc (Nat.le_refl _) _).alloc (by simp) _
  have hsz : ((w.alloc (.cells #[I 0] 3)).alloc (.cells #[.slice a R.length cap] 22)).heap.size = w.heap.size + 2 := by simp
  obtain ⟨W0, hW0⟩ : ∃ W0, (w.alloc (.cells #[I 0] 3)).alloc (.cells #[.slice a R.length cap] 22) = W0 := ⟨_, rfl⟩
  rw [hW0] at bS bL hB0 hsz ⊢
  clear hW0
  obtain ⟨g, hgB, hgW, hr0⟩ := row_at (B := w.heap.size) hr hg hB0 (Nat.le_refl _) (by omega)
  refine wpIn_rangeFunc_ownH (F := Fence.wide) rfl (by omega) (gf := 26) (lb := #[.pointer (some ⟨w.heap.size + 1, 0, none⟩)]) rfl trivial (enters_of Try.func26 (by kernel_rfl) rfl)
    (behind_stops _ (by omega) (w.heap.size + 1) w.heap.size g o cap a R hR W0 (by omega) hgB hgW (by omega) bL.cell hr0) (fun h k => h.tr k) (fun W l o o' _ h hc _ => KB.put W l o o' h hc) (Below.refl _ _) (fun _ => rfl)
    (fun pre W => Boxed W w.heap.size 3 (I (sumF pre)) ∧ Below w.heap.size w W)
    (fun _ _ _ => False)
    (OwnFrom.and (Own.from (boxed_own _ _ _) _) (ownFrom_below (Nat.le_refl _) (by omega)))
    (fun _ _ _ _ _ hs _ _ => hs)
    ⟨bS, hB0⟩
    (fun x a' W => ∃ Bx, w.heap.size < Bx ∧ W.heap[Bx]? = some (oP x.2) ∧ a' = { tmps := #[.slice a R.length cap, undef, I 0, .pointer (some ⟨w.heap.size, 0, none⟩), I x.1, .pointer (some ⟨Bx, 0, none⟩), .slice a R.length cap, .func (.func 26) #[] #[.pointer (some ⟨w.heap.size + 1, 0, none⟩)], I x.1, pv x.2, undef, undef, undef, undef, undef], defers := [] }) ?hAx ?assign ?body ?done ?stop
  case hAx =>
    rintro x a' _ X Y row ⟨Bx, h1, h2, h3⟩ hg hrow
    exact ⟨Bx, h1, (hg.block Bx (Array.getElem?_eq_some_iff.1 h2).1 (fun e => by obtain ⟨-, q, ho, hc⟩ := hrow Bx e.symm; rw [h2] at ho; cases ho; cases hc)).trans h2, h3⟩
  case assign =>
    rintro l pre x W K ⟨hi, hB⟩ hK
    obtain ⟨xa, xs, xw⟩ := x
    have hbx := heap_alloc_new W (oP ⟨xs, xw⟩)
    have hsW := hB.size
    gi_wp2
    exact hK _ _ ((KeepsOthers.alloc _ _).from _) (KB.al _ _ _) ⟨hi.alloc _, hB.alloc hsW _⟩ ⟨W.heap.size, hi.lt, hbx, rfl⟩
  case body =>
    rintro l pre ⟨xa, xs, xw⟩ a' W hl - ⟨hi, hB⟩ ⟨Bx, hBx, hbx, rfl⟩ hlt
    obtain ⟨b0, b1⟩ := two hbx
    have hc := hi.cell
    have hf := hi.frozen
    gi_wp2
    exact ⟨(KeepsOthers.setCell _ _ _).from _, KB.set _ _ _, by rw [sumF_snoc]; exact hi.set _, hB.setCell (p := ⟨w.heap.size, 0, none⟩) (Nat.le_refl _) _⟩
  case done =>
    rintro D ys W hD rfl ⟨hb, hB⟩ hK
    have hc := hb.cell
    rw [sumF_all hR _ (Nat.le_refl _)] at hc
    clear hb
    gi_wp2
    refine ⟨by simp, .inl ⟨_, _, rfl, run_takeDeferred hK, ?_⟩⟩
    exact ⟨_, results_tmp rfl _ _ _, rfl, hB.trans (belowK_b (w := w) (Nat.le_refl _) W D _ _ (by omega) hK rfl rfl)⟩
  case stop =>
    rintro D c pre W _ _ h _
    exact h.elim
end Go.Proofs.Ytndlglkokbchbaa.split
