/-
  Package link: On.
-/
import Derived.Test.YtndipeipcodidaaLinJ
namespace Go.Proofs.Ytndipeipcodidaa.link
open Go.ChangeShapes Go.WideShapes Go.ChangeAt Go.RowKit
set_option linter.unusedVariables false
set_option linter.unusedSimpArgs false

set_option maxHeartbeats 1500000 in
set_option maxRecDepth 20000 in
theorem on_any (w : World) (p : Nat) (hop : Int) (A : List Flt) (cnt : List Int) (kk nd now : Int) (h : LS w p hop A cnt) (hN : A.length ≤ 40) :
    Calls Try.prog 17 #[ptr p, .int .i64 kk, .int .i64 nd, .int .i64 now] w fun e w' => e = .returned (onM A kk nd now) ∧ Bl w w' := by
  obtain ⟨g, a, cap, hL, hA, hgp⟩ := h
  have hpl := hL.lt
  obtain ⟨N, hNN⟩ : ∃ z, A.length = z := ⟨_, rfl⟩
  rw [hNN] at hN hL
  obtain ⟨y, hy⟩ : ∃ z, w.heap.size = z := ⟨_, rfl⟩
  replace hNN := Lib.hid hNN; replace hA := Lib.hid hA
  have TH := Lib.hid there_any
  obtain ⟨d0, d1⟩ := (hL.bl ((Bl.rfl' w).al (.cells #[I 0, I 0, I 0, I 0, I 0, I 0] 40))).c
  obtain ⟨c0, c1⟩ := hL.c
  clear hL
  go_enter Try.func17, Try.ntmps17
  go_wp2_with fail
  have hY := heap_alloc_new w (.cells #[I 0, I 0, I 0, I 0, I 0, I 0] 40)
  have hb1 := (Bl.rfl' w).al (.cells #[I 0, I 0, I 0, I 0, I 0, I 0] 40)
  rw [hy] at hY
  obtain ⟨w1, hw1⟩ : ∃ z, w.alloc (.cells #[I 0, I 0, I 0, I 0, I 0, I 0] 40) = z := ⟨_, rfl⟩
  rw [hw1] at hY hb1 ⊢
  clear hw1
  clear d0 d1 c0 c1
  replace hY := Lib.hid hY; replace hb1 := Lib.hid hb1
  go_loopw [17] (fun i wr => ∃ k : Nat, k ≤ N ∧ i = I k ∧ (∀ j, j < k → onB kk nd now (A.getD j fl0) = false) ∧ wr.heap[y]? = some (.cells #[I 0, I 0, I 0, I 0, I 0, I 0] 40 (0, 0)) ∧ Bl w wr) (fun i _ => N - (intOf i).toNat)
  case atStart => exact ⟨0, by omega, rfl, fun j hj => by omega, hY.out, hb1.out⟩
  case round =>
    obtain ⟨k, hkN, rfl, hno, hYr, hbr⟩ := hrel
    clear hY hb1
    replace hno := Lib.hid hno
    have hnext : onB kk nd now (A.getD k fl0) = false → ∀ j, j < k + 1 → onB kk nd now (A.getD j fl0) = false := fun h j hj => by
      rcases Nat.lt_or_ge j k with hl | hl
      · exact hno.out j hl
      · obtain rfl : j = k := by omega
        exact h
    by_cases hlt : k < N
    · have hfnd : onB kk nd now (A.getD k fl0) = true → onM A kk nd now = .tuple #[fv (A.getD k fl0), .bool true] := fun h => by
        unfold onM
        rw [find_at A k hno.out (by rw [hNN.out]; exact hlt) h]
      obtain ⟨rfl, q0, q1, q2, q3, q4, q5⟩ := (hA.out.bl hbr).c k (by rw [hNN.out]; exact hlt)
      obtain ⟨x, hx⟩ : ∃ z, A.getD k fl0 = z := ⟨_, rfl⟩
      rw [hx] at q0 q1 q2 q3 q4 q5 hnext hfnd
      obtain ⟨xk, xf, xt, xa, xb, xn⟩ := x
      simp only at q0 q1 q2 q3 q4 q5
      replace hnext := Lib.hid hnext; replace hfnd := Lib.hid hfnd; replace hYr := Lib.hid hYr; replace hbr := Lib.hid hbr
      have hfv := heap_alloc_new wr (.cells #[I xk, I xf, I xt, I xa, I xb, I xn] 55)
      have hbv := (Bl.rfl' wr).al (.cells #[I xk, I xf, I xt, I xa, I xb, I xn] 55)
      replace hfv := Lib.hid hfv
      replace hYr := Lib.hid (var_bl hYr.out hbv); replace hbr := Lib.hid (hbr.out.tr hbv)
      clear hbv
      replace hx := Lib.hid hx
      by_cases e1 : xk = kk
      · subst e1
        by_cases e2 : xa = nd
        · subst e2
          obtain ⟨m, hm⟩ : ∃ z, thereB ⟨xk, xf, xt, xa, xb, xn⟩ now = z := ⟨_, rfl⟩
          have on1 : onB xk xa now ⟨xk, xf, xt, xa, xb, xn⟩ = m := by unfold onB; rw [hm]; simp
          have T1 := TH.out ⟨xk, xf, xt, xa, xb, xn⟩ now (wr.alloc (.cells #[I xk, I xf, I xt, I xa, I xb, I xn] 55))
          rw [hm] at T1
          replace on1 := Lib.hid on1; replace T1 := Lib.hid T1
          clear hm
          cases m with
          | true =>
            go_wp2_with fail
            refine T1.out.mono ?_
            rintro e w5 ⟨rfl, hb5⟩
            have hY5 := var_bl hYr.out hb5
            have hbr5 := hbr.out.tr hb5
            have hf5 := var_bl hfv.out hb5
            have p0 := cell_at hf5 0
            have p1 := cell_at hf5 1
            have p2 := cell_at hf5 2
            have p3 := cell_at hf5 3
            have p4 := cell_at hf5 4
            have p5 := cell_at hf5 5
            simp only [List.getElem?_toArray, List.getElem?_cons_succ, List.getElem?_cons_zero] at p0 p1 p2 p3 p4 p5
            clear hf5
            have fr := free_at hY5
            have z0 := cell_at hY5 0
            have z1 := cell_at hY5 1
            have z2 := cell_at hY5 2
            have z3 := cell_at hY5 3
            have z4 := cell_at hY5 4
            have z5 := cell_at hY5 5
            simp only [List.getElem?_toArray, List.getElem?_cons_succ, List.getElem?_cons_zero] at z0 z1 z2 z3 z4 z5
            obtain ⟨⟨r0, r1, r2, r3, r4, r5⟩, g6⟩ := six_set hY5 xk xf xt xa xb xn
            have hb6 := hbr5.gp g6 (by omega)
            replace r0 := Lib.hid r0; replace r1 := Lib.hid r1; replace r2 := Lib.hid r2; replace r3 := Lib.hid r3; replace r4 := Lib.hid r4; replace r5 := Lib.hid r5; replace hb6 := Lib.hid hb6
            clear g6 hb5 hbr5 hY5 q0 q1 q2 q3 q4 q5
            go_wp2_with fail
            have r0 := r0.out; have r1 := r1.out; have r2 := r2.out; have r3 := r3.out; have r4 := r4.out; have r5 := r5.out
            refine bodyPost_ret (v := .tuple #[fv ⟨xk, xf, xt, xa, xb, xn⟩, .bool true]) (by simp [results, Try.results17, go_sem, r0, r1, r2, r3, r4, r5]) rfl ⟨by rw [hfnd.out on1.out], hb6.out⟩
          | false =>
            go_wp2_with fail
            refine T1.out.mono ?_
            rintro e w5 ⟨rfl, hb5⟩
            go_wp2_with fail
            go_roundw
            case rel => exact ⟨k + 1, by omega, by go_num, hnext.out on1.out, var_bl hYr.out hb5, hbr.out.tr hb5⟩
            case measure => simp [intOf]; omega
        · have e2' : (xa == nd) = false := beq_eq_false_iff_ne.2 e2
          have on1 := hnext.out (by unfold onB; simp [e2])
          replace on1 := Lib.hid on1
          go_wp2_with fail
          go_roundw
          case rel => exact ⟨k + 1, by omega, by go_num, on1.out, hYr.out, hbr.out⟩
          case measure => simp [intOf]; omega
      · have e1' : (xk == kk) = false := beq_eq_false_iff_ne.2 e1
        have on1 := hnext.out (by unfold onB; simp [e1])
        replace on1 := Lib.hid on1
        go_wp2_with fail
        go_roundw
        case rel => exact ⟨k + 1, by omega, by go_num, on1.out, hYr.out, hbr.out⟩
        case measure => simp [intOf]; omega
    · obtain rfl : k = N := by omega
      have hnm : onM A kk nd now = .tuple #[fv fl0, .bool false] := by
        unfold onM
        rw [find_no A (by rw [hNN.out]; exact hno.out)]
      replace hnm := Lib.hid hnm
      clear hnext
      have fr := free_at hYr
      have z0 := cell_at hYr 0
      have z1 := cell_at hYr 1
      have z2 := cell_at hYr 2
      have z3 := cell_at hYr 3
      have z4 := cell_at hYr 4
      have z5 := cell_at hYr 5
      simp only [List.getElem?_toArray, List.getElem?_cons_succ, List.getElem?_cons_zero] at z0 z1 z2 z3 z4 z5
      obtain ⟨⟨r0, r1, r2, r3, r4, r5⟩, g6⟩ := six_set hYr 0 0 0 0 0 0
      have hb6 := hbr.gp g6 (by omega)
      replace r0 := Lib.hid r0; replace r1 := Lib.hid r1; replace r2 := Lib.hid r2; replace r3 := Lib.hid r3; replace r4 := Lib.hid r4; replace r5 := Lib.hid r5; replace hb6 := Lib.hid hb6
      clear g6
      replace hYr := Lib.hid hYr; replace hbr := Lib.hid hbr
      go_wp2_with fail
      have r0 := r0.out; have r1 := r1.out; have r2 := r2.out; have r3 := r3.out; have r4 := r4.out; have r5 := r5.out
      refine bodyPost_ret (v := .tuple #[fv fl0, .bool false]) (by simp [results, Try.results17, go_sem, r0, r1, r2, r3, r4, r5]) rfl ⟨by rw [hnm.out], hb6.out⟩
end Go.Proofs.Ytndipeipcodidaa.link
