/-
  Package adapt: Done.
-/
import Derived.Test.YtdfbipfgcfajbaaAdaA
import Derived.Test.YtdfbipfgcfajbaaMapA
namespace Go.Proofs.Ytdfbipfgcfajbaa.adapt
open Go.ChangeShapes Go.WideShapes Go.ChangeAt Go.RowKit
set_option linter.unusedVariables false
set_option linter.unusedSimpArgs false

def based (s : Lim) (took : Int) (well : Bool) : Lim := if well = true ∧ (s.ba = 0 ∨ took < s.ba) then { s with ba := took } else s
def done (s : Lim) (now under took : Int) (well : Bool) : Lim := if well = true ∧ took ≤ 4 * (based s took well).ba then rise (based s took well) under else fall (based s took well) now

abbrev F1 (p : Nat) : Value := .func (.func 16) #[ptr p] #[]
abbrev F2 (p : Nat) : Value := .func (.func 17) #[ptr p] #[]
abbrev M1 (p : Nat) : Obj := .map #[{ key := .bool true, val := F1 p, born := 0 }] 1
abbrev M2 (p : Nat) : Obj := .map #[{ key := .bool true, val := F1 p, born := 0 }, { key := .bool false, val := F2 p, born := 1 }] 2
theorem map_1 (w : World) (p : Nat) : (Instr.mapUpdate 42 (.map (some w.heap.size)) (.bool true) (F1 p)).run Try.prog (w.alloc (.map #[] 0)) = .ok () (w.alloc (M1 p)) :=
  run_put w _ 4 _ .bool #[] 0 (.bool true) (F1 p) Try.underlying42 Try.underlying4 (by simp [MapKept.IsKey]) rfl
theorem map_2 (w : World) (p : Nat) : (Instr.mapUpdate 42 (.map (some w.heap.size)) (.bool false) (F2 p)).run Try.prog (w.alloc (M1 p)) = .ok () (w.alloc (M2 p)) :=
  run_put w _ 4 _ .bool #[{ key := .bool true, val := F1 p, born := 0 }] 1 (.bool false) (F2 p) Try.underlying42 Try.underlying4 (by simp [MapKept.IsKey]) rfl
theorem get_1 (w : World) (p : Nat) : (Instr.lookup 42 (.map (some w.heap.size)) (.bool true) false).run Try.prog (w.alloc (M2 p)) = .ok (F1 p) (w.alloc (M2 p)) :=
  run_get _ _ 4 _ .bool _ 2 _ (.bool true) (F1 p) 0 Try.underlying42 Try.underlying4 (by simp [MapKept.IsKey]) (MapKept.heap_alloc w (M2 p)).1 rfl
theorem get_2 (w : World) (p : Nat) : (Instr.lookup 42 (.map (some w.heap.size)) (.bool false) false).run Try.prog (w.alloc (M2 p)) = .ok (F2 p) (w.alloc (M2 p)) :=
  run_get _ _ 4 _ .bool _ 2 _ (.bool false) (F2 p) 1 Try.underlying42 Try.underlying4 (by simp [MapKept.IsKey]) (MapKept.heap_alloc w (M2 p)).1 rfl

set_option maxHeartbeats 4000000 in
set_option maxRecDepth 20000 in
theorem done_any (w : World) (p : Nat) (s : Lim) (now under took : Int) (well : Bool) (h : AB w p s) (hs : okL s) (t0 : 0 ≤ now) (t1 : now ≤ 1000000) (k0 : 0 ≤ took) (k1 : took ≤ 1000) :
    Calls Try.prog 12 #[ptr p, .int .i64 now, .int .i64 under, .int .i64 took, .bool well] w fun e w' => e = .returned (.tuple #[]) ∧ AB w' p (done s now under took well) ∧ w.grownBy w' (some p) := by
  unfold done
  cases well with
  | false =>
    have hbs : based s took false = s := if_neg (fun h => by cases h.1)
    rw [hbs, if_neg (show ¬ (false = true ∧ took ≤ 4 * s.ba) from fun h => by cases h.1)]
    have F := Lib.hid (fall_any (w.alloc (M2 p)) p s now under (h.bl ((Bl.rfl' w).al _)) hs t0 t1)
    have hg0 := Lib.hid (gby_of_bl ((Bl.rfl' w).al (M2 p)) (some p))
    obtain ⟨c0, c1, c2, c3, c4, c5⟩ := h.c
    replace h := Lib.hid h
    have hmm := @run_makeMap Try.prog
    have hm1 := map_1 w p
    have hm2 := map_2 w p
    have hm3 := get_2 w p
    go_enter Try.func12, Try.ntmps12
    go_wp2_with fail
    refine F.out.mono ?_
    rintro e w1 ⟨rfl, h1, hg1⟩
    replace h1 := Lib.hid h1
    replace hg1 := Lib.hid (gby_tr hg0.out hg1)
    go_wp2_with fail
    go_end0
    exact ⟨rfl, h1.out, hg1.out⟩
  | true =>
    obtain ⟨n, lo, hi, ba, ct, ca⟩ := s
    unfold okL at hs
    simp only at hs
    obtain ⟨n0, n1, lo0, lo1, hi0, hi1, ba0, ba1, ca0, ca1⟩ := hs
    obtain ⟨c0, c1, c2, c3, c4, c5⟩ := h.c
    simp only at c0 c1 c2 c3 c4 c5
    have hmm := @run_makeMap Try.prog
    by_cases hb : ba = 0
    · rw [show based (⟨n, lo, hi, ba, ct, ca⟩ : Lim) took true = ⟨n, lo, hi, took, ct, ca⟩ from if_pos ⟨rfl, Or.inl hb⟩]
      simp only
      subst hb
      have hk : took ≤ 4 * took := by omega
      have hW : AB (w.setCell ⟨p, 3, none⟩ (I took)) p ({ n := n, lo := lo, hi := hi, ba := took, ct := ct, ca := ca } : Lim) := h.set_ba took
      have hsW : okL ({ n := n, lo := lo, hi := hi, ba := took, ct := ct, ca := ca } : Lim) := by unfold okL; simp only; omega
      have F := Lib.hid (rise_any ((w.setCell ⟨p, 3, none⟩ (I took)).alloc (M2 p)) p ({ n := n, lo := lo, hi := hi, ba := took, ct := ct, ca := ca } : Lim) now under (hW.bl ((Bl.rfl' _).al _)) hsW)
      have TL := tooLong_any ((w.setCell ⟨p, 3, none⟩ (I took)).alloc (M2 p)) p ({ n := n, lo := lo, hi := hi, ba := took, ct := ct, ca := ca } : Lim) took (hW.bl ((Bl.rfl' _).al _)) hsW
      rw [show decide (4 * (({ n := n, lo := lo, hi := hi, ba := took, ct := ct, ca := ca } : Lim)).ba < took) = false from decide_eq_false (by show ¬ 4 * took < took; omega)] at TL
      replace TL := Lib.hid TL
      have hg0 := Lib.hid (gby_tr (gby_set w p 3 (I took)) (gby_of_bl ((Bl.rfl' (w.setCell ⟨p, 3, none⟩ (I took))).al (M2 p)) (some p)))
      obtain ⟨_, _, _, z3, _, _⟩ := (hW.bl ((Bl.rfl' (w.setCell ⟨p, 3, none⟩ (I took))).al (M2 p))).c
      simp only at z3
      have hm1 := map_1 (w.setCell ⟨p, 3, none⟩ (I took)) p
      have hm2 := map_2 (w.setCell ⟨p, 3, none⟩ (I took)) p
      have hm3 := get_1 (w.setCell ⟨p, 3, none⟩ (I took)) p
      rw [show (w.setCell ⟨p, 3, none⟩ (I took)).heap.size = w.heap.size by simp] at hm1 hm2 hm3
      rw [if_pos (show True ∧ took ≤ 4 * took from ⟨trivial, hk⟩)]
      have hw4 : IntKind.i64.wrap (4 * took) = 4 * took := by rw [IntKind.wrap_i64]; omega
      obtain ⟨y0, y1, y2, y3, y4, y5⟩ := hW.c
      simp only at y0 y1 y2 y3 y4 y5
      have f3 := h.free 3
      replace h := Lib.hid h; replace hW := Lib.hid hW; replace hsW := Lib.hid hsW
      go_enter Try.func12, Try.ntmps12
      go_wp2_with fail
      refine TL.out.mono ?_
      rintro e w' ⟨rfl, rfl⟩
      go_wp2_with fail
      refine F.out.mono ?_
      rintro e w1 ⟨rfl, h1, hg1⟩
      replace h1 := Lib.hid h1
      replace hg1 := Lib.hid (gby_tr hg0.out hg1)
      go_wp2_with fail
      go_end0
      exact ⟨rfl, h1.out, hg1.out⟩
    · have hbe : (ba == 0) = false := beq_eq_false_iff_ne.2 hb
      by_cases hb2 : took < ba
      · rw [show based (⟨n, lo, hi, ba, ct, ca⟩ : Lim) took true = ⟨n, lo, hi, took, ct, ca⟩ from if_pos ⟨rfl, Or.inr hb2⟩]
        simp only
        have hk : took ≤ 4 * took := by omega
        have hW : AB (w.setCell ⟨p, 3, none⟩ (I took)) p ({ n := n, lo := lo, hi := hi, ba := took, ct := ct, ca := ca } : Lim) := h.set_ba took
        have hsW : okL ({ n := n, lo := lo, hi := hi, ba := took, ct := ct, ca := ca } : Lim) := by unfold okL; simp only; omega
        have F := Lib.hid (rise_any ((w.setCell ⟨p, 3, none⟩ (I took)).alloc (M2 p)) p ({ n := n, lo := lo, hi := hi, ba := took, ct := ct, ca := ca } : Lim) now under (hW.bl ((Bl.rfl' _).al _)) hsW)
        have TL := tooLong_any ((w.setCell ⟨p, 3, none⟩ (I took)).alloc (M2 p)) p ({ n := n, lo := lo, hi := hi, ba := took, ct := ct, ca := ca } : Lim) took (hW.bl ((Bl.rfl' _).al _)) hsW
        rw [show decide (4 * (({ n := n, lo := lo, hi := hi, ba := took, ct := ct, ca := ca } : Lim)).ba < took) = false from decide_eq_false (by show ¬ 4 * took < took; omega)] at TL
        replace TL := Lib.hid TL
        have hg0 := Lib.hid (gby_tr (gby_set w p 3 (I took)) (gby_of_bl ((Bl.rfl' (w.setCell ⟨p, 3, none⟩ (I took))).al (M2 p)) (some p)))
        obtain ⟨_, _, _, z3, _, _⟩ := (hW.bl ((Bl.rfl' (w.setCell ⟨p, 3, none⟩ (I took))).al (M2 p))).c
        simp only at z3
        have hm1 := map_1 (w.setCell ⟨p, 3, none⟩ (I took)) p
        have hm2 := map_2 (w.setCell ⟨p, 3, none⟩ (I took)) p
        have hm3 := get_1 (w.setCell ⟨p, 3, none⟩ (I took)) p
        rw [show (w.setCell ⟨p, 3, none⟩ (I took)).heap.size = w.heap.size by simp] at hm1 hm2 hm3
        rw [if_pos (show True ∧ took ≤ 4 * took from ⟨trivial, hk⟩)]
        have hw4 : IntKind.i64.wrap (4 * took) = 4 * took := by rw [IntKind.wrap_i64]; omega
        obtain ⟨y0, y1, y2, y3, y4, y5⟩ := hW.c
        simp only at y0 y1 y2 y3 y4 y5
        have f3 := h.free 3
        replace h := Lib.hid h; replace hW := Lib.hid hW; replace hsW := Lib.hid hsW
        go_enter Try.func12, Try.ntmps12
        go_wp2_with fail
        refine TL.out.mono ?_
        rintro e w' ⟨rfl, rfl⟩
        go_wp2_with fail
        refine F.out.mono ?_
        rintro e w1 ⟨rfl, h1, hg1⟩
        replace h1 := Lib.hid h1
        replace hg1 := Lib.hid (gby_tr hg0.out hg1)
        go_wp2_with fail
        go_end0
        exact ⟨rfl, h1.out, hg1.out⟩
      · rw [show based (⟨n, lo, hi, ba, ct, ca⟩ : Lim) took true = ⟨n, lo, hi, ba, ct, ca⟩ from if_neg (fun h => h.2.elim hb hb2)]
        simp only
        by_cases hk : took ≤ 4 * ba
        · have hW : AB w p ({ n := n, lo := lo, hi := hi, ba := ba, ct := ct, ca := ca } : Lim) := h
          have hsW : okL ({ n := n, lo := lo, hi := hi, ba := ba, ct := ct, ca := ca } : Lim) := by unfold okL; simp only; omega
          have F := Lib.hid (rise_any (w.alloc (M2 p)) p ({ n := n, lo := lo, hi := hi, ba := ba, ct := ct, ca := ca } : Lim) now under (hW.bl ((Bl.rfl' _).al _)) hsW)
          have TL := tooLong_any (w.alloc (M2 p)) p ({ n := n, lo := lo, hi := hi, ba := ba, ct := ct, ca := ca } : Lim) took (hW.bl ((Bl.rfl' _).al _)) hsW
          rw [show decide (4 * (({ n := n, lo := lo, hi := hi, ba := ba, ct := ct, ca := ca } : Lim)).ba < took) = false from decide_eq_false (by show ¬ 4 * ba < took; omega)] at TL
          replace TL := Lib.hid TL
          have hg0 := Lib.hid (gby_tr (gby_rfl w _) (gby_of_bl ((Bl.rfl' w).al (M2 p)) (some p)))
          obtain ⟨_, _, _, z3, _, _⟩ := (hW.bl ((Bl.rfl' w).al (M2 p))).c
          simp only at z3
          have hm1 := map_1 w p
          have hm2 := map_2 w p
          have hm3 := get_1 w p
          rw [if_pos (show True ∧ took ≤ 4 * ba from ⟨trivial, hk⟩)]
          have hw4 : IntKind.i64.wrap (4 * ba) = 4 * ba := by rw [IntKind.wrap_i64]; omega
          replace h := Lib.hid h; replace hW := Lib.hid hW; replace hsW := Lib.hid hsW
          go_enter Try.func12, Try.ntmps12
          go_wp2_with fail
          refine TL.out.mono ?_
          rintro e w' ⟨rfl, rfl⟩
          go_wp2_with fail
          refine F.out.mono ?_
          rintro e w1 ⟨rfl, h1, hg1⟩
          replace h1 := Lib.hid h1
          replace hg1 := Lib.hid (gby_tr hg0.out hg1)
          go_wp2_with fail
          go_end0
          exact ⟨rfl, h1.out, hg1.out⟩
        · have hW : AB w p ({ n := n, lo := lo, hi := hi, ba := ba, ct := ct, ca := ca } : Lim) := h
          have hsW : okL ({ n := n, lo := lo, hi := hi, ba := ba, ct := ct, ca := ca } : Lim) := by unfold okL; simp only; omega
          have F := Lib.hid (fall_any (w.alloc (M2 p)) p ({ n := n, lo := lo, hi := hi, ba := ba, ct := ct, ca := ca } : Lim) now under (hW.bl ((Bl.rfl' _).al _)) hsW t0 t1)
          have TL := tooLong_any (w.alloc (M2 p)) p ({ n := n, lo := lo, hi := hi, ba := ba, ct := ct, ca := ca } : Lim) took (hW.bl ((Bl.rfl' _).al _)) hsW
          rw [show decide (4 * (({ n := n, lo := lo, hi := hi, ba := ba, ct := ct, ca := ca } : Lim)).ba < took) = true from decide_eq_true (by show 4 * ba < took; omega)] at TL
          replace TL := Lib.hid TL
          have hg0 := Lib.hid (gby_tr (gby_rfl w _) (gby_of_bl ((Bl.rfl' w).al (M2 p)) (some p)))
          obtain ⟨_, _, _, z3, _, _⟩ := (hW.bl ((Bl.rfl' w).al (M2 p))).c
          simp only at z3
          have hm1 := map_1 w p
          have hm2 := map_2 w p
          have hm3 := get_2 w p
          rw [if_neg (show ¬ (True ∧ took ≤ 4 * ba) from fun h => hk h.2)]
          have hw4 : IntKind.i64.wrap (4 * ba) = 4 * ba := by rw [IntKind.wrap_i64]; omega
          replace h := Lib.hid h; replace hW := Lib.hid hW; replace hsW := Lib.hid hsW
          go_enter Try.func12, Try.ntmps12
          go_wp2_with fail
          refine TL.out.mono ?_
          rintro e w' ⟨rfl, rfl⟩
          go_wp2_with fail
          refine F.out.mono ?_
          rintro e w1 ⟨rfl, h1, hg1⟩
          replace h1 := Lib.hid h1
          replace hg1 := Lib.hid (gby_tr hg0.out hg1)
          go_wp2_with fail
          go_end0
          exact ⟨rfl, h1.out, hg1.out⟩
end Go.Proofs.Ytdfbipfgcfajbaa.adapt
