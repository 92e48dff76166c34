/-
  Package split: Pick.
-/
import Derived.Test.YtndlglkokbchbaaSpC
namespace Go.Proofs.Ytndlglkokbchbaa.split
open Go.ChangeShapes Go.WideShapes Go.ChangeAt Go.RowKit Go.Shelf
set_option linter.unusedVariables false
set_option linter.unusedSimpArgs false
attribute [local go_sem] Oper.semAt_some

/-- The first one handed out whose weights, with what is ahead, are more than rest. -/
def hitF (rest : Int) (l : List (Int × Pt)) : Option (Int × Pt) := l.find? fun x => decide (rest < wrap64 (x.1 + x.2.w))
theorem hit_some {rest : Int} {l : List (Int × Pt)} {x : Int × Pt} (h : hitF rest l = none) (hx : rest < wrap64 (x.1 + x.2.w)) : hitF rest (l ++ [x]) = some x := by
  unfold hitF at *; rw [List.find?_append, h]; simp [hx]
theorem hit_none {rest : Int} {l : List (Int × Pt)} {x : Int × Pt} (h : hitF rest l = none) (hx : ¬ rest < wrap64 (x.1 + x.2.w)) : hitF rest (l ++ [x]) = none := by
  unfold hitF at *; rw [List.find?_append, h]; simp [hx]
theorem hit_pre {rest : Int} {l m : List (Int × Pt)} {x : Int × Pt} (h : hitF rest l = some x) (hp : l <+: m) : hitF rest m = some x := by
  obtain ⟨t, rfl⟩ := hp
  unfold hitF at *; rw [List.find?_append, h]; rfl
/-- The service that a number stands for. -/
def pickF (R : List Pt) (d : Int) : Int := if ahd R R.length < 1 then 0 else ((hitF (d % ahd R R.length) (evP R R.length)).map (fun x => x.2.s)).getD 0

set_option maxRecDepth 100000 in
set_option maxHeartbeats 4000000 in
theorem pick_any (v : Value) (R : List Pt) (d : Int) (d0 : 0 ≤ d) (d1 : d ≤ 18446744073709551615) (w : World) (hv : PartsAt w v R) : Calls Try.prog 17 #[v, .int .u64 d] w fun e w' => e = .returned (I (pickF R d)) ∧ Bl w w' := by
  have SM := Lib.hid (fun w' (hb : Bl w w') => sum_any v R w' (hv.bl hb))
  obtain ⟨a, g, o, cap, rfl, hr, hg, hR⟩ := hv
  unfold pickF
  have hs0 := hR.ahd R.length
  have hs1 := hR.2
  obtain ⟨m, hm⟩ : ∃ z_, (ahd R R.length) = z_ := ⟨_, rfl⟩
  rw [hm] at SM hs0
  rw [hm]
  have hbig : m ≤ 1000000 := by omega
  refine (callsIn_wide (n := 9)).1 ?_
  refine callsIn_of_wp_marks Try.func17 rfl trivial ?_ rfl
  simp only [Try.ntmps17, List.size_toArray, List.length_cons, List.length_nil, Nat.reduceAdd, Nat.reduceSub, Array.replicate_succ, Array.replicate_zero, List.push_toArray, List.append_toArray, List.nil_append, List.cons_append]
  by_cases hlt : m < 1
  · rw [if_pos hlt]
    have hd : decide (m < 1) = true := decide_eq_true hlt
    gi_wp2_with (refine ⟨trivial, ?_⟩; gi_at_call 12; refine (callsIn_wide.2 (SM.out _ ((Bl.rfl' w).al _))).mono ?_; rintro e w1 ⟨rfl, hb1⟩; have bR := blk_bl (Boxed.new w 3 (I 0)) hb1; have c0 := Boxed.cell bR; have f0 := Boxed.frozen bR)
    have hc5 := World.cell?_setCell_same' w1 ⟨w.heap.size, 0, none⟩ (.int .i64 0) (by rw [c0]; rfl)
    refine ⟨I 0, ?_, rfl, (((Bl.rfl' w).al _).tr hb1).setCell (p := ⟨w.heap.size, 0, none⟩) (Nat.le_refl _) _⟩
    simp [results, Try.f17, go_sem, hc5]
  · rw [if_neg hlt]
    have hd : decide (m < 1) = false := decide_eq_false hlt
    have hm0 : IntKind.u64.wrap m = m := by rw [IntKind.wrap_u64]; omega
    have hmn : ¬ m = 0 := by omega
    have ht : d.tmod m = d % m := Int.tmod_eq_emod_of_nonneg d0
    have hr0 := Int.emod_nonneg d hmn
    have hr1 := Int.emod_lt_of_pos d (show 0 < m by omega)
    obtain ⟨rest, hrest⟩ : ∃ z, d % m = z := ⟨_, rfl⟩
    rw [hrest] at ht hr0 hr1
    rw [hrest]
    have hw1 : IntKind.u64.wrap (d.tmod m) = rest := by rw [ht, IntKind.wrap_u64]; omega
    have hw2 : IntKind.i64.wrap rest = rest := by rw [IntKind.wrap_i64]; omega
    gi_wp2_with (first
      | (refine ⟨trivial, ?_⟩; gi_at_call 12; refine (callsIn_wide.2 (SM.out _ ((Bl.rfl' w).al _))).mono ?_; rintro e w1 ⟨rfl, hb1⟩; have bR := blk_bl (Boxed.new w 3 (I 0)) hb1; have c0 := Boxed.cell bR; have f0 := Boxed.frozen bR)
      | (refine ⟨trivial, ?_⟩; gi_at_call 24; refine (callsIn_wide.2 (behind_any _ _ _ _)).mono ?_; rintro e w2 ⟨rfl, rfl⟩))
    have hsw := hb1.size
    simp only [World.size_alloc] at hsw
    have bR2 := (Boxed.alloc bR (.cells #[I rest] 3)).alloc (.cells #[.slice a R.length cap] 22)
    have bT := (Boxed.new w1 3 (I rest)).alloc (.cells #[.slice a R.length cap] 22)
    have bL := Boxed.new (w1.alloc (.cells #[I rest] 3)) 22 (.slice a R.length cap)
    simp only [World.size_alloc] at bL
    have hB1 : Below w.heap.size w w1 := ((Bl.rfl' w).al _).tr hb1
    have hB0 : Below w.heap.size w ((w1.alloc (.cells #[I rest] 3)).alloc (.cells #[.slice a R.length cap] 22)) := (hB1.alloc (by omega) _).alloc (by simp; omega) _
    have hsz : ((w1.alloc (.cells #[I rest] 3)).alloc (.cells #[.slice a R.length cap] 22)).heap.size = w1.heap.size + 2 := by simp
    obtain ⟨W0, hW0⟩ : ∃ W0, (w1.alloc (.cells #[I rest] 3)).alloc (.cells #[.slice a R.length cap] 22) = W0 := ⟨_, rfl⟩
    rw [hW0] at bR2 bT bL hB0 hsz ⊢
    clear hW0
    obtain ⟨g, hgB, hgW, hr0'⟩ := row_at (B := w.heap.size) hr hg hB0 (Nat.le_refl _) (by omega)
    clear bR c0 f0 SM
    refine wpIn_rangeFunc_ownH (F := Fence.wide) rfl (by omega) (gf := 26) (lb := #[.pointer (some ⟨w1.heap.size + 1, 0, none⟩)]) rfl trivial (enters_of Try.func26 (by kernel_rfl) rfl)
      (behind_stops _ (by omega) (w1.heap.size + 1) w.heap.size g o cap a R hR W0 (by omega) hgB hgW (by omega) bL.cell hr0') (fun h k => h.tr k) (fun W l o o' _ h hc _ => KB.put W l o o' h hc) (Below.refl _ _) (fun _ => rfl)
      (fun pre W => (hitF rest pre = none ∧ Boxed W w.heap.size 3 (I 0) ∧ Boxed W w1.heap.size 3 (I rest)) ∧ Below w.heap.size w W)
      (fun c pre W => (c = .ret ∧ ∃ x, hitF rest pre = some x ∧ Boxed W w.heap.size 3 (I x.2.s)) ∧ Below w.heap.size w W)
      (OwnFrom.and (Own.from (fun s A B row hs hg hr => ⟨hs.1, boxed_own _ _ (fun _ => I 0) s A B row hs.2.1 hg hr, boxed_own _ _ (fun _ => I rest) s A B row hs.2.2 hg hr⟩) _) (ownFrom_below (Nat.le_refl _) (by omega)))
      (fun c => OwnFrom.and (Own.from (fun s A B row hs hg hr => by obtain ⟨h1, x, h2, h3⟩ := hs; exact ⟨h1, x, h2, boxed_own _ _ (fun _ => I x.2.s) s A B row h3 hg hr⟩) _) (ownFrom_below (Nat.le_refl _) (by omega)))
      ⟨⟨rfl, bR2, bT⟩, hB0⟩
      (fun x a' W => ∃ Bx, w1.heap.size < Bx ∧ W.heap[Bx]? = some (oP x.2) ∧ a' = { tmps := #[.slice a R.length cap, .int .u64 d, undef, undef, .pointer (some ⟨w.heap.size, 0, none⟩), I m, .pointer (some ⟨w1.heap.size, 0, none⟩), I x.1, .pointer (some ⟨Bx, 0, none⟩), .slice a R.length cap, I m, I m, .bool false, .int .u64 d, I m, .int .u64 m, .int .u64 rest, I rest, .slice a R.length cap, .func (.func 26) #[] #[.pointer (some ⟨w1.heap.size + 1, 0, none⟩)], I x.1, pv x.2, undef, undef, undef, undef, undef, undef, undef, undef], defers := [] }) ?hAx ?assign ?body ?done ?stop
    case hAx =>
      rintro x a' _ X Y row ⟨Bx, h1, h2, h3⟩ hg hrow
      exact ⟨Bx, h1, (hg.block Bx (Array.getElem?_eq_some_iff.1 h2).1 (fun e => by obtain ⟨-, q, ho, hc⟩ := hrow Bx e.symm; rw [h2] at ho; cases ho; cases hc)).trans h2, h3⟩
    case assign =>
      rintro l pre x W K ⟨⟨h0, hi, hi2⟩, hB⟩ hK
      obtain ⟨xa, xs, xw⟩ := x
      have hbx := heap_alloc_new W (oP ⟨xs, xw⟩)
      have hsW := hB.size
      gi_wp2
      exact hK _ _ ((KeepsOthers.alloc _ _).from _) (KB.al _ _ _) ⟨⟨h0, hi.alloc _, hi2.alloc _⟩, hB.alloc hsW _⟩ ⟨W.heap.size, hi2.lt, hbx, rfl⟩
    case body =>
      rintro l pre ⟨xa, xs, xw⟩ a' W hl - ⟨⟨h0, hi, hi2⟩, hB⟩ ⟨Bx, hBx, hbx, rfl⟩ hlt
      obtain ⟨b0, b1⟩ := two hbx
      have hc := hi.cell
      have hf := hi.frozen
      have hc2 := hi2.cell
      by_cases hx : rest < wrap64 (xa + xw)
      · have hit := hit_some (x := (xa, ⟨xs, xw⟩)) h0 hx
        have hd1 : decide (rest < wrap64 (xa + xw)) = true := decide_eq_true hx
        have hd2 : decide (wrap64 (xa + xw) > rest) = true := decide_eq_true hx
        gi_wp2
        exact ⟨(KeepsOthers.setCell _ _ _).from _, ⟨rfl, xa, ⟨xs, xw⟩, hit, hi.set _⟩, hB.setCell (p := ⟨w.heap.size, 0, none⟩) (Nat.le_refl _) _⟩
      · have hit := hit_none (x := (xa, ⟨xs, xw⟩)) h0 hx
        have hd1 : decide (rest < wrap64 (xa + xw)) = false := decide_eq_false hx
        have hd2 : decide (wrap64 (xa + xw) > rest) = false := decide_eq_false hx
        gi_wp2
        exact ⟨KeepsFrom.refl _ _, KB.rfl' _ _, ⟨hit, hi, hi2⟩, hB⟩
    case done =>
      rintro D ys W hD rfl ⟨⟨h0, hi, hi2⟩, hB⟩ hK
      have hc := hi.cell
      have hf := hi.frozen
      gi_wp2
      have hK' := (KeepsOthers.setCell W ⟨w.heap.size, 0, none⟩ (.int .i64 0)).same D _ hK rfl
      refine ⟨by simp, .inl ⟨_, _, rfl, run_takeDeferred hK', ?_⟩⟩
      have hc5 := cell_kept (World.cell?_setCell_same' W ⟨w.heap.size, 0, none⟩ (.int .i64 0) (by rw [hc]; rfl)) (grownBy_putObj' _ D (.deferred none)) (fun r e => by cases e; exact ⟨_, hK', rfl⟩)
      refine ⟨I 0, ?_, by rw [h0]; rfl, (hB.setCell (p := ⟨w.heap.size, 0, none⟩) (Nat.le_refl _) _).trans (belowK_b (w := w) (Nat.le_refl _) _ D _ _ (by omega) hK' rfl rfl)⟩
      simp [results, Try.f17, go_sem, hc5]
    case stop =>
      rintro D c pre W hD hpre ⟨⟨rfl, x, h1, hi⟩, hB⟩ hK
      gi_wp2
      refine ⟨by simp, .inl ⟨_, _, rfl, run_takeDeferred hK, ?_⟩⟩
      have hc5 := cell_kept hi.cell (grownBy_putObj' _ D (.deferred none)) (fun r e => by cases e; exact ⟨_, hK, rfl⟩)
      refine ⟨I x.2.s, ?_, by rw [hit_pre h1 hpre]; rfl, hB.trans (belowK_b (w := w) (Nat.le_refl _) W D _ _ (by omega) hK rfl rfl)⟩
      simp [results, Try.f17, go_sem, hc5]
end Go.Proofs.Ytndlglkokbchbaa.split
