/-
  Package link, and the document's answer: On, End.
-/
import Derived.Test.YtndipeipcodidaaLinI
namespace Go.Proofs.Ytndipeipcodidaa.link
open Go.ChangeShapes Go.WideShapes Go.ChangeAt Go.RowKit
set_option linter.unusedVariables false
set_option linter.unusedSimpArgs false

theorem thereR_any (x : Flt) (now : Int) (w : World) : Calls Try.prog 26 #[fv x, .int .i64 now] w fun e w' => e = .returned (.bool (thereB x now)) ∧ Bl w w' := by
  unfold thereB
  by_cases h : x.f ≤ now
  · have h1 : decide (x.f ≤ now) = true := decide_eq_true h
    rw [h1]
    go_enter Try.func26, Try.ntmps26
    go_wp2_with fail
    go_ret
    exact ⟨by simp, (Bl.rfl' _).al _⟩
  · have h1 : decide (x.f ≤ now) = false := decide_eq_false h
    rw [h1]
    go_enter Try.func26, Try.ntmps26
    go_wp2_with fail
    go_ret
    exact ⟨by simp, (Bl.rfl' _).al _⟩

set_option maxHeartbeats 4000000 in
theorem endR_any (w : World) (g : Nat) (a : Option Addr) (cap : Nat) (A : List Flt) (hA : FRow w g a A) (hN : A.length ≤ 40) :
    Calls Try.prog 20 #[.slice a A.length cap] w fun e w' => e = .returned (I (endTo A A.length)) ∧ w = w' := by
  obtain ⟨N, hNN⟩ : ∃ z, A.length = z := ⟨_, rfl⟩
  rw [hNN] at hN ⊢
  obtain ⟨T, hT⟩ : ∃ T : Nat → Int, endTo A = T := ⟨_, rfl⟩
  have hT0 : T 0 = 0 := by rw [← hT]; rfl
  have hTs : ∀ k, T (k + 1) = max (T k) (A.getD k fl0).t := fun k => by rw [← hT]; rfl
  rw [hT]
  replace hNN := Lib.hid hNN; replace hT0 := Lib.hid hT0; replace hTs := Lib.hid hTs; replace hA := Lib.hid hA
  clear hT
  go_enter Try.func20, Try.ntmps20
  go_wp2_with fail
  go_loopw [3, 4] (fun en i wr => ∃ k : Nat, k ≤ N ∧ i = I k ∧ en = I (T k) ∧ w = wr) (fun _ i _ => N - (intOf i).toNat)
  case atStart => exact ⟨0, by omega, rfl, by rw [hT0.out], rfl⟩
  case round =>
    obtain ⟨k, hkN, rfl, rfl, rfl⟩ := hrel
    by_cases hlt : k < N
    · obtain ⟨rfl, q0, q1, q2, q3, q4, q5⟩ := hA.out.c k (by rw [hNN.out]; exact hlt)
      have hstep := hTs.out k
      obtain ⟨x, hx⟩ : ∃ z, A.getD k fl0 = z := ⟨_, rfl⟩
      rw [hx] at q0 q1 q2 q3 q4 q5 hstep
      obtain ⟨xk, xf, xt, xa, xb, xn⟩ := x
      simp only at q0 q1 q2 q3 q4 q5 hstep
      replace hstep := Lib.hid hstep
      clear hx
      go_wp2_with fail
      go_roundw
      case rel => exact ⟨k + 1, by omega, by go_num, by
        rw [hstep.out, show max (T k) xt = if T k < xt then xt else T k by split <;> omega], by simp⟩
      case measure => simp [intOf]; omega
    · obtain rfl : k = N := by omega
      go_wp2_with fail
      go_ret
      exact ⟨rfl, rfl⟩

/-- The first fault of a kind, of a node, that is there. -/
def onB (k nd now : Int) (x : Flt) : Bool := (x.k == k && x.a == nd) && thereB x now
def onM (A : List Flt) (k nd now : Int) : Value := match A.find? (onB k nd now) with
  | some x => .tuple #[fv x, .bool true]
  | none => .tuple #[fv fl0, .bool false]
theorem find_at {P : Flt → Bool} : ∀ (A : List Flt) (k : Nat), (∀ j, j < k → P (A.getD j fl0) = false) → k < A.length → P (A.getD k fl0) = true → A.find? P = some (A.getD k fl0)
  | [], k, _, h, _ => by simp at h
  | x :: A, 0, _, _, h => by simp at h ⊢; exact Or.inl h
  | x :: A, k + 1, h0, h1, h2 => by
    have e := h0 0 (by omega)
    simp at e
    have := find_at A k (fun j hj => by have := h0 (j + 1) (by omega); simpa using this) (by simpa using h1) (by simpa using h2)
    simp only [List.find?_cons, e]
    simpa using this
theorem find_no {P : Flt → Bool} : ∀ (A : List Flt), (∀ j, j < A.length → P (A.getD j fl0) = false) → A.find? P = none
  | [], _ => rfl
  | x :: A, h0 => by
    have e := h0 0 (by simp)
    simp at e
    simp only [List.find?_cons, e]
    exact find_no A (fun j hj => by have := h0 (j + 1) (by simpa using hj); simpa using this)

/-- A fault stored over another one. -/
theorem six_set {w : World} {y : Nat} {T : TypeId} {a b c d e f : Int} (h : w.heap[y]? = some (.cells #[I a, I b, I c, I d, I e, I f] T (0, 0))) (a' b' c' d' e' f' : Int) :
    (((((((w.setCell ⟨y, 0, none⟩ (I a')).setCell ⟨y, 1, none⟩ (I b')).setCell ⟨y, 2, none⟩ (I c')).setCell ⟨y, 3, none⟩ (I d')).setCell ⟨y, 4, none⟩ (I e')).setCell ⟨y, 5, none⟩ (I f')).cell? ⟨y, 0, none⟩ = some (I a') ∧ ((((((w.setCell ⟨y, 0, none⟩ (I a')).setCell ⟨y, 1, none⟩ (I b')).setCell ⟨y, 2, none⟩ (I c')).setCell ⟨y, 3, none⟩ (I d')).setCell ⟨y, 4, none⟩ (I e')).setCell ⟨y, 5, none⟩ (I f')).cell? ⟨y, 1, none⟩ = some (I b') ∧ ((((((w.setCell ⟨y, 0, none⟩ (I a')).setCell ⟨y, 1, none⟩ (I b')).setCell ⟨y, 2, none⟩ (I c')).setCell ⟨y, 3, none⟩ (I d')).setCell ⟨y, 4, none⟩ (I e')).setCell ⟨y, 5, none⟩ (I f')).cell? ⟨y, 2, none⟩ = some (I c') ∧ ((((((w.setCell ⟨y, 0, none⟩ (I a')).setCell ⟨y, 1, none⟩ (I b')).setCell ⟨y, 2, none⟩ (I c')).setCell ⟨y, 3, none⟩ (I d')).setCell ⟨y, 4, none⟩ (I e')).setCell ⟨y, 5, none⟩ (I f')).cell? ⟨y, 3, none⟩ = some (I d') ∧ ((((((w.setCell ⟨y, 0, none⟩ (I a')).setCell ⟨y, 1, none⟩ (I b')).setCell ⟨y, 2, none⟩ (I c')).setCell ⟨y, 3, none⟩ (I d')).setCell ⟨y, 4, none⟩ (I e')).setCell ⟨y, 5, none⟩ (I f')).cell? ⟨y, 4, none⟩ = some (I e') ∧ ((((((w.setCell ⟨y, 0, none⟩ (I a')).setCell ⟨y, 1, none⟩ (I b')).setCell ⟨y, 2, none⟩ (I c')).setCell ⟨y, 3, none⟩ (I d')).setCell ⟨y, 4, none⟩ (I e')).setCell ⟨y, 5, none⟩ (I f')).cell? ⟨y, 5, none⟩ = some (I f')) ∧ w.grownBy ((((((w.setCell ⟨y, 0, none⟩ (I a')).setCell ⟨y, 1, none⟩ (I b')).setCell ⟨y, 2, none⟩ (I c')).setCell ⟨y, 3, none⟩ (I d')).setCell ⟨y, 4, none⟩ (I e')).setCell ⟨y, 5, none⟩ (I f')) (some y) := by
  have s5 := set_at 5 (I f') (set_at 4 (I e') (set_at 3 (I d') (set_at 2 (I c') (set_at 1 (I b') (set_at 0 (I a') h)))))
  have g := gby_tr (gby_tr (gby_tr (gby_tr (gby_tr (gby_set w y 0 (I a')) (gby_set _ y 1 (I b'))) (gby_set _ y 2 (I c'))) (gby_set _ y 3 (I d'))) (gby_set _ y 4 (I e'))) (gby_set _ y 5 (I f'))
  refine ⟨⟨?_, ?_, ?_, ?_, ?_, ?_⟩, g⟩ <;> (rw [cell_at s5]; simp)

set_option maxHeartbeats 1500000 in
set_option maxRecDepth 20000 in
theorem onR_any (w : World) (g : Nat) (a : Option Addr) (cap : Nat) (A : List Flt) (kk nd now : Int) (hA : FRow w g a A) (hN : A.length ≤ 40) :
    Calls Try.prog 18 #[.slice a A.length cap, .int .i64 kk, .int .i64 nd, .int .i64 now] w fun e w' => e = .returned (onM A kk nd now) ∧ Bl w w' := by
  obtain ⟨N, hNN⟩ : ∃ z, A.length = z := ⟨_, rfl⟩
  rw [hNN] at hN ⊢
  obtain ⟨y, hy⟩ : ∃ z, w.heap.size = z := ⟨_, rfl⟩
  replace hNN := Lib.hid hNN; replace hA := Lib.hid hA
  have TH := Lib.hid thereR_any
  go_enter Try.func18, Try.ntmps18
  go_wp2_with fail
  have hY := heap_alloc_new w (.cells #[I 0, I 0, I 0, I 0, I 0, I 0] 40)
  have hb1 := (Bl.rfl' w).al (.cells #[I 0, I 0, I 0, I 0, I 0, I 0] 40)
  rw [hy] at hY
  obtain ⟨w1, hw1⟩ : ∃ z, w.alloc (.cells #[I 0, I 0, I 0, I 0, I 0, I 0] 40) = z := ⟨_, rfl⟩
  rw [hw1] at hY hb1 ⊢
  clear hw1
  replace hY := Lib.hid hY; replace hb1 := Lib.hid hb1
  go_loopw [10] (fun i wr => ∃ k : Nat, k ≤ N ∧ i = I k ∧ (∀ j, j < k → onB kk nd now (A.getD j fl0) = false) ∧ wr.heap[y]? = some (.cells #[I 0, I 0, I 0, I 0, I 0, I 0] 40 (0, 0)) ∧ Bl w wr) (fun i _ => N - (intOf i).toNat)
  case atStart => exact ⟨0, by omega, rfl, fun j hj => by omega, hY.out, hb1.out⟩
  case round =>
    obtain ⟨k, hkN, rfl, hno, hYr, hbr⟩ := hrel
    clear hY hb1
    replace hno := Lib.hid hno
    have hnext : onB kk nd now (A.getD k fl0) = false → ∀ j, j < k + 1 → onB kk nd now (A.getD j fl0) = false := fun h j hj => by
      rcases Nat.lt_or_ge j k with hl | hl
      · exact hno.out j hl
      · obtain rfl : j = k := by omega
        exact h
    by_cases hlt : k < N
    · have hfnd : onB kk nd now (A.getD k fl0) = true → onM A kk nd now = .tuple #[fv (A.getD k fl0), .bool true] := fun h => by
        unfold onM
        rw [find_at A k hno.out (by rw [hNN.out]; exact hlt) h]
      obtain ⟨rfl, q0, q1, q2, q3, q4, q5⟩ := (hA.out.bl hbr).c k (by rw [hNN.out]; exact hlt)
      obtain ⟨x, hx⟩ : ∃ z, A.getD k fl0 = z := ⟨_, rfl⟩
      rw [hx] at q0 q1 q2 q3 q4 q5 hnext hfnd
      obtain ⟨xk, xf, xt, xa, xb, xn⟩ := x
      simp only at q0 q1 q2 q3 q4 q5
      replace hnext := Lib.hid hnext; replace hfnd := Lib.hid hfnd; replace hYr := Lib.hid hYr; replace hbr := Lib.hid hbr
      replace hx := Lib.hid hx
      by_cases e1 : xk = kk
      · subst e1
        by_cases e2 : xa = nd
        · subst e2
          obtain ⟨m, hm⟩ : ∃ z, thereB ⟨xk, xf, xt, xa, xb, xn⟩ now = z := ⟨_, rfl⟩
          have on1 : onB xk xa now ⟨xk, xf, xt, xa, xb, xn⟩ = m := by unfold onB; rw [hm]; simp
          have T1 := TH.out ⟨xk, xf, xt, xa, xb, xn⟩ now wr
          rw [hm] at T1
          replace on1 := Lib.hid on1; replace T1 := Lib.hid T1
          clear hm
          cases m with
          | true =>
            go_wp2_with fail
            refine T1.out.mono ?_
            rintro e w5 ⟨rfl, hb5⟩
            have hY5 := var_bl hYr.out hb5
            have hbr5 := hbr.out.tr hb5
            obtain ⟨_, p0, p1, p2, p3, p4, p5⟩ := (hA.out.bl hbr5).c k (by rw [hNN.out]; exact hlt)
            rw [hx.out] at p0 p1 p2 p3 p4 p5
            simp only at p0 p1 p2 p3 p4 p5
            have fr := free_at hY5
            have z0 := cell_at hY5 0
            have z1 := cell_at hY5 1
            have z2 := cell_at hY5 2
            have z3 := cell_at hY5 3
            have z4 := cell_at hY5 4
            have z5 := cell_at hY5 5
            simp only [List.getElem?_toArray, List.getElem?_cons_succ, List.getElem?_cons_zero] at z0 z1 z2 z3 z4 z5
            obtain ⟨⟨r0, r1, r2, r3, r4, r5⟩, g6⟩ := six_set hY5 xk xf xt xa xb xn
            have hb6 := hbr5.gp g6 (by omega)
            replace r0 := Lib.hid r0; replace r1 := Lib.hid r1; replace r2 := Lib.hid r2; replace r3 := Lib.hid r3; replace r4 := Lib.hid r4; replace r5 := Lib.hid r5; replace hb6 := Lib.hid hb6
            clear g6 hb5 hbr5 hY5 q0 q1 q2 q3 q4 q5
            go_wp2_with fail
            have r0 := r0.out; have r1 := r1.out; have r2 := r2.out; have r3 := r3.out; have r4 := r4.out; have r5 := r5.out
            refine bodyPost_ret (v := .tuple #[fv ⟨xk, xf, xt, xa, xb, xn⟩, .bool true]) (by simp [results, Try.results18, go_sem, r0, r1, r2, r3, r4, r5]) rfl ⟨by rw [hfnd.out on1.out], hb6.out⟩
          | false =>
            go_wp2_with fail
            refine T1.out.mono ?_
            rintro e w5 ⟨rfl, hb5⟩
            go_wp2_with fail
            go_roundw
            case rel => exact ⟨k + 1, by omega, by go_num, hnext.out on1.out, var_bl hYr.out hb5, hbr.out.tr hb5⟩
            case measure => simp [intOf]; omega
        · have e2' : (xa == nd) = false := beq_eq_false_iff_ne.2 e2
          have on1 := hnext.out (by unfold onB; simp [e2])
          replace on1 := Lib.hid on1
          go_wp2_with fail
          go_roundw
          case rel => exact ⟨k + 1, by omega, by go_num, on1.out, hYr.out, hbr.out⟩
          case measure => simp [intOf]; omega
      · have e1' : (xk == kk) = false := beq_eq_false_iff_ne.2 e1
        have on1 := hnext.out (by unfold onB; simp [e1])
        replace on1 := Lib.hid on1
        go_wp2_with fail
        go_roundw
        case rel => exact ⟨k + 1, by omega, by go_num, on1.out, hYr.out, hbr.out⟩
        case measure => simp [intOf]; omega
    · obtain rfl : k = N := by omega
      have hnm : onM A kk nd now = .tuple #[fv fl0, .bool false] := by
        unfold onM
        rw [find_no A (by rw [hNN.out]; exact hno.out)]
      replace hnm := Lib.hid hnm
      clear hnext
      have fr := free_at hYr
      have z0 := cell_at hYr 0
      have z1 := cell_at hYr 1
      have z2 := cell_at hYr 2
      have z3 := cell_at hYr 3
      have z4 := cell_at hYr 4
      have z5 := cell_at hYr 5
      simp only [List.getElem?_toArray, List.getElem?_cons_succ, List.getElem?_cons_zero] at z0 z1 z2 z3 z4 z5
      obtain ⟨⟨r0, r1, r2, r3, r4, r5⟩, g6⟩ := six_set hYr 0 0 0 0 0 0
      have hb6 := hbr.gp g6 (by omega)
      replace r0 := Lib.hid r0; replace r1 := Lib.hid r1; replace r2 := Lib.hid r2; replace r3 := Lib.hid r3; replace r4 := Lib.hid r4; replace r5 := Lib.hid r5; replace hb6 := Lib.hid hb6
      clear g6
      replace hYr := Lib.hid hYr; replace hbr := Lib.hid hbr
      go_wp2_with fail
      have r0 := r0.out; have r1 := r1.out; have r2 := r2.out; have r3 := r3.out; have r4 := r4.out; have r5 := r5.out
      refine bodyPost_ret (v := .tuple #[fv fl0, .bool false]) (by simp [results, Try.results18, go_sem, r0, r1, r2, r3, r4, r5]) rfl ⟨by rw [hnm.out], hb6.out⟩
end Go.Proofs.Ytndipeipcodidaa.link
