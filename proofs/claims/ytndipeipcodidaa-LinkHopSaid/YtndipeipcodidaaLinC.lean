/-
  Package link: Send.
-/
import Derived.Test.YtndipeipcodidaaLinB
namespace Go.Proofs.Ytndipeipcodidaa.link
open Go.ChangeShapes Go.WideShapes Go.ChangeAt Go.RowKit
set_option linter.unusedVariables false
set_option linter.unusedSimpArgs false

/-- When a message comes so far, whether it is lost, or comes twice, and how many each fault has seen. -/
structure SS where
  at_ : Int
  lost : Bool
  twice : Bool
  cnt : List Int
/-- Does a fault strike the message that it sees as its c-th? -/
def strk (x : Flt) (c : Int) : Bool := decide (0 < x.n) && (c % x.n == 0)
def sendStep (now u v : Int) (s : SS) (i : Nat) (x : Flt) : SS :=
  if (way x && seesB x now u v) = true then
    { at_ := if x.k = 2 then s.at_ + x.n else s.at_,
      lost := if x.k = 4 then true else if x.k = 1 then s.lost || strk x (s.cnt.getD i 0 + 1) else s.lost,
      twice := if x.k = 3 then s.twice || strk x (s.cnt.getD i 0 + 1) else s.twice,
      cnt := s.cnt.set i (s.cnt.getD i 0 + 1) }
  else s
def sendTo (A : List Flt) (now u v : Int) (s : SS) : Nat → SS
  | 0 => s
  | k + 1 => sendStep now u v (sendTo A now u v s k) k (A.getD k fl0)
def sent (s : SS) : List Int := if s.lost = true then [] else if s.twice = true then [s.at_, s.at_ + 1] else [s.at_]
def okF (x : Flt) : Prop := 0 ≤ x.n ∧ x.n ≤ 10000
def okC (b : Int) (cnt : List Int) : Prop := cnt.length = 40 ∧ ∀ i, 0 ≤ cnt.getD i 0 ∧ cnt.getD i 0 ≤ b
theorem okC.set {b : Int} {cnt : List Int} (h : okC b cnt) (i : Nat) : okC (b + 1) (cnt.set i (cnt.getD i 0 + 1)) := by
  refine ⟨by rw [List.length_set]; exact h.1, fun j => ?_⟩
  have hj := h.2 j
  have hi := h.2 i
  rw [List.getD_eq_getElem?_getD, List.getElem?_set]
  split
  · split
    · simp only [Option.getD_some]; omega
    · simp only [Option.getD_none]; omega
  · rw [← List.getD_eq_getElem?_getD]; omega
theorem okC.mono {b c : Int} {cnt : List Int} (h : okC b cnt) (hb : b ≤ c) : okC c cnt := ⟨h.1, fun i => by have := h.2 i; omega⟩

theorem own_base {w : World} {base b n size : Nat} {e : TypeId} {v : Value} {xs : List Value} (h : w.ownsRow b e size v n xs) (hb : base ≤ b) : w.ownsRow base e size v n xs := by
  refine ⟨h.1, ?_⟩
  rcases h.2 with h | ⟨g6, c6, u6, h1, h2, h3⟩
  · exact Or.inl h
  · exact Or.inr ⟨g6, c6, u6, h1, Nat.le_trans hb h2, h3⟩

set_option maxHeartbeats 4000000 in
set_option maxRecDepth 20000 in
theorem send_any (w : World) (p g : Nat) (hop : Int) (a : Option Addr) (cap : Nat) (A : List Flt) (cnt : List Int) (now u v b : Int) (h : LK w p hop (.slice a A.length cap) cnt) (hA : FRow w g a A) (hne : g ≠ p) (hN : A.length ≤ 40) (hF : ∀ x ∈ A, okF x) (hc : okC b cnt) (b1 : b ≤ 500000) (t0 : 0 ≤ now) (t1 : now ≤ 1000000) (h0 : 0 ≤ hop) (h1 : hop ≤ 1000000) :
    Calls Try.prog 14 #[ptr p, .int .i64 now, .int .i64 u, .int .i64 v] w fun e w' =>
      ∃ vr, e = .returned vr ∧ w'.ownsRow w.heap.size 3 1 vr (sent (sendTo A now u v ⟨now + hop, false, false, cnt⟩ A.length)).length ((sent (sendTo A now u v ⟨now + hop, false, false, cnt⟩ A.length)).map I) ∧
      LK w' p hop (.slice a A.length cap) (sendTo A now u v ⟨now + hop, false, false, cnt⟩ A.length).cnt ∧ w.grownBy w' (some p) := by
  obtain ⟨c0, c1⟩ := h.c
  have hFF : ∀ i, i < A.length → okF (A.getD i fl0) := fun i hi => hF _ (by
    rw [List.getD_eq_getElem?_getD, List.getElem?_eq_getElem hi]; exact List.getElem_mem _)
  obtain ⟨N, hNN⟩ : ∃ z, A.length = z := ⟨_, rfl⟩
  rw [hNN] at c1 h hN hFF ⊢
  obtain ⟨T, hT⟩ : ∃ T : Nat → SS, sendTo A now u v ⟨now + hop, false, false, cnt⟩ = T := ⟨_, rfl⟩
  have hT0 : T 0 = ⟨now + hop, false, false, cnt⟩ := by rw [← hT]; rfl
  have hTs : ∀ k, T (k + 1) = sendStep now u v (T k) k (A.getD k fl0) := fun k => by rw [← hT]; rfl
  rw [hT]
  replace hNN := Lib.hid hNN; replace hFF := Lib.hid hFF; replace h := Lib.hid h; replace hT0 := Lib.hid hT0; replace hTs := Lib.hid hTs; replace hA := Lib.hid hA; replace hc := Lib.hid hc
  clear hF hT
  go_enter Try.func14, Try.ntmps14
  go_wp2_with fail
  go_loopw [9, 10, 11, 26] (fun at_ ls tw i wr => ∃ k : Nat, k ≤ N ∧ i = I k ∧ at_ = I (T k).at_ ∧ ls = .bool (T k).lost ∧ tw = .bool (T k).twice ∧ okC (b + k) (T k).cnt ∧ 0 ≤ (T k).at_ ∧ (T k).at_ ≤ 2000000 + 10000 * k ∧ LK wr p hop (.slice a N cap) (T k).cnt ∧ FRow wr g a A ∧ w.grownBy wr (some p)) (fun _ _ _ i _ => N - (intOf i).toNat)
  case atStart => exact ⟨0, by omega, rfl, by rw [hT0.out], by rw [hT0.out], by rw [hT0.out], by rw [hT0.out]; exact hc.out.mono (by simp), by rw [hT0.out]; simp only; omega, by rw [hT0.out]; simp only; omega, by rw [hT0.out]; exact h.out, hA.out, gby_rfl _ _⟩
  case round =>
    obtain ⟨k, hkN, rfl, rfl, rfl, rfl, hok, a0, a1, hL, hFr, hgr⟩ := hrel
    clear c0 c1
    by_cases hlt : k < N
    · obtain ⟨rfl, q0, q1, q2, q3, q4, q5⟩ := hFr.c k (by rw [hNN.out]; exact hlt)
      have hfk := hFF.out k hlt
      have hstep := hTs.out k
      have hal := (Bl.rfl' wr).al (.cells #[I (A.getD k fl0).k, I (A.getD k fl0).f, I (A.getD k fl0).t, I (A.getD k fl0).a, I (A.getD k fl0).b, I (A.getD k fl0).n] 55)
      have M := meets_any _ p g hop (some ⟨g, 0, none⟩) cap A (T k).cnt k now u v (by rw [hNN.out]; exact hL.bl hal) (hFr.bl hal) hne (by rw [hNN.out]; exact hlt) (by omega) (hok.2 k).1 (by have := (hok.2 k).2; omega)
      have hyv := heap_alloc_new wr (.cells #[I (A.getD k fl0).k, I (A.getD k fl0).f, I (A.getD k fl0).t, I (A.getD k fl0).a, I (A.getD k fl0).b, I (A.getD k fl0).n] 55)
      have hFa := hFr.bl hal
      have hga := gby_tr hgr (gby_of_bl hal (some p))
      rw [hNN.out] at M
      obtain ⟨x, hx⟩ : ∃ z, A.getD k fl0 = z := ⟨_, rfl⟩
      simp only [hx] at q0 q1 q2 q3 q4 q5 hfk hstep M hyv hFa hga
      obtain ⟨s, hs⟩ : ∃ z, T k = z := ⟨_, rfl⟩
      rw [hs] at hok a0 a1 hL hstep M
      simp only [hs]
      obtain ⟨m, hm⟩ : ∃ z, (way x && seesB x now u v) = z := ⟨_, rfl⟩
      have hpy : wr.heap.size ≠ p := by have := hL.lt; omega
      rw [hm] at M
      replace M := Lib.hid M; replace hyv := Lib.hid hyv; replace hFa := Lib.hid hFa; replace hga := Lib.hid hga; replace hstep := Lib.hid hstep
      replace hL := Lib.hid hL
      clear hal hFr hgr
      cases m with
      | false =>
        have hT1 : T (k + 1) = s := by rw [hstep.out]; unfold sendStep; rw [hm]; simp
        replace hT1 := Lib.hid hT1
        go_wp2_with fail
        refine M.out.mono ?_
        rintro e w5 ⟨rfl, hL5, hg5⟩
        have hF5 := hFa.out.gby hg5 hne
        have hG5 := gby_tr hga.out hg5
        replace hL5 := Lib.hid hL5; replace hF5 := Lib.hid hF5; replace hG5 := Lib.hid hG5
        clear hg5
        go_wp2_with fail
        go_roundw
        case rel => exact ⟨k + 1, by omega, by go_num, by rw [hT1.out], by rw [hT1.out], by rw [hT1.out], by rw [hT1.out]; exact hok.mono (by omega), by rw [hT1.out]; omega, by rw [hT1.out]; omega, by rw [hT1.out]; exact hL5.out, hF5.out, hG5.out⟩
        case measure => simp [intOf]; omega
      | true =>
        obtain ⟨sa, sl, stw, sc⟩ := s
        obtain ⟨xk, xf, xt, xa, xb, xn⟩ := x
        simp only at *
        have hwy : way ⟨xk, xf, xt, xa, xb, xn⟩ = true := by
          cases hw : way ⟨xk, xf, xt, xa, xb, xn⟩ with
          | true => rfl
          | false => rw [hw] at hm; simp at hm
        have hkk : xk = 1 ∨ xk = 2 ∨ xk = 3 ∨ xk = 4 := by
          unfold way at hwy
          simp only [Bool.or_eq_true, beq_iff_eq] at hwy
          omega
        have hkl : k < sc.length := by rw [hok.1]; omega
        have hc0 := hok.2 k
        have hokc := hok.set k
        rw [show b + (k : Int) + 1 = b + ((k + 1 : Nat) : Int) by omega] at hokc
        obtain ⟨c, hc'⟩ : ∃ z, sc.getD k 0 + 1 = z := ⟨_, rfl⟩
        have hcb : 1 ≤ c ∧ c ≤ 1000000 := by omega
        have hget : (sc.set k c).getD k 0 = c := by
          rw [List.getD_eq_getElem?_getD, List.getElem?_set]; simp [hkl]
        unfold okF at hfk
        simp only at hfk
        rw [hc'] at hokc
        have hsn : seen sc k true = sc.set k c := by rw [← hc']; rfl
        rw [hsn] at M
        replace hget := Lib.hid hget; replace hokc := Lib.hid hokc
        clear hwy hok hsn hc0
        by_cases hpos : 0 < xn
        · have hq : c.tmod xn = c % xn := Int.tmod_eq_emod_of_nonneg (by omega)
          have hq0 := Int.emod_nonneg c (show xn ≠ 0 by omega)
          have hq1 := Int.emod_lt_of_pos c hpos
          obtain ⟨r, hr⟩ : ∃ z, c % xn = z := ⟨_, rfl⟩
          rw [hr] at hq hq0 hq1
          have hxn : ¬ xn = 0 := by omega
          obtain ⟨st, hst⟩ : ∃ z, (r == 0) = z := ⟨_, rfl⟩
          have hst0 : (c % xn == 0) = st := by rw [hr]; exact hst
          have hpos' : decide (0 < xn) = true := decide_eq_true hpos
          have hpos2 : decide (xn > 0) = true := decide_eq_true hpos
          rcases hkk with rfl | rfl | rfl | rfl
          · cases sl with
            | true =>
              have hT1 : T (k + 1) = ⟨sa, true, stw, sc.set k c⟩ := by
                rw [hstep.out]
                unfold sendStep
                rw [hm]
                simp only [if_true, hc']
                simp [strk, hpos, hst0]
              replace hT1 := Lib.hid hT1
              go_wp2_with fail
              refine M.out.mono ?_
              rintro e w5 ⟨rfl, hL5, hg5⟩
              have hF5 := hFa.out.gby hg5 hne
              have hG5 := gby_tr hga.out hg5
              have hy5 := var_gby hyv.out hg5 hpy
              have hcell := hL5.at k (by omega)
              rw [hget.out] at hcell
              have y0 := cell_at hy5 0
              have y5 := cell_at hy5 5
              simp only [List.getElem?_toArray, List.getElem?_cons_succ, List.getElem?_cons_zero] at y0 y5
              replace hL5 := Lib.hid hL5; replace hF5 := Lib.hid hF5; replace hG5 := Lib.hid hG5
              clear hg5 hy5
              go_wp2_with fail
              go_quiet (fail)
              go_wp2_with fail
              go_roundw
              case rel => exact ⟨k + 1, by omega, by go_num, by rw [hT1.out], by rw [hT1.out], by rw [hT1.out], by rw [hT1.out]; exact hokc.out, by rw [hT1.out]; simp only; omega, by rw [hT1.out]; simp only; omega, by rw [hT1.out]; exact hL5.out.bl (Bl.drewN _ _), hF5.out.bl (Bl.drewN _ _), gby_tr hG5.out (gby_of_bl (Bl.drewN _ _) _)⟩
              case measure => simp [intOf]; omega
            | false =>
              have hT1 : T (k + 1) = ⟨sa, st, stw, sc.set k c⟩ := by
                rw [hstep.out]
                unfold sendStep
                rw [hm]
                simp only [if_true, hc']
                simp [strk, hpos, hst0]
              replace hT1 := Lib.hid hT1
              go_wp2_with fail
              refine M.out.mono ?_
              rintro e w5 ⟨rfl, hL5, hg5⟩
              have hF5 := hFa.out.gby hg5 hne
              have hG5 := gby_tr hga.out hg5
              have hy5 := var_gby hyv.out hg5 hpy
              have hcell := hL5.at k (by omega)
              rw [hget.out] at hcell
              have y0 := cell_at hy5 0
              have y5 := cell_at hy5 5
              simp only [List.getElem?_toArray, List.getElem?_cons_succ, List.getElem?_cons_zero] at y0 y5
              replace hL5 := Lib.hid hL5; replace hF5 := Lib.hid hF5; replace hG5 := Lib.hid hG5
              clear hg5 hy5
              go_wp2_with fail
              go_quiet (fail)
              go_wp2_with fail
              go_roundw
              case rel => exact ⟨k + 1, by omega, by go_num, by rw [hT1.out], by rw [hT1.out], by rw [hT1.out], by rw [hT1.out]; exact hokc.out, by rw [hT1.out]; simp only; omega, by rw [hT1.out]; simp only; omega, by rw [hT1.out]; exact hL5.out.bl (Bl.drewN _ _), hF5.out.bl (Bl.drewN _ _), gby_tr hG5.out (gby_of_bl (Bl.drewN _ _) _)⟩
              case measure => simp [intOf]; omega
          · have hT1 : T (k + 1) = ⟨sa + xn, sl, stw, sc.set k c⟩ := by
              rw [hstep.out]
              unfold sendStep
              rw [hm]
              simp only [if_true, hc']
              simp [strk, hpos, hst0]
            replace hT1 := Lib.hid hT1
            go_wp2_with fail
            refine M.out.mono ?_
            rintro e w5 ⟨rfl, hL5, hg5⟩
            have hF5 := hFa.out.gby hg5 hne
            have hG5 := gby_tr hga.out hg5
            have hy5 := var_gby hyv.out hg5 hpy
            have hcell := hL5.at k (by omega)
            rw [hget.out] at hcell
            have y0 := cell_at hy5 0
            have y5 := cell_at hy5 5
            simp only [List.getElem?_toArray, List.getElem?_cons_succ, List.getElem?_cons_zero] at y0 y5
            replace hL5 := Lib.hid hL5; replace hF5 := Lib.hid hF5; replace hG5 := Lib.hid hG5
            clear hg5 hy5
            go_wp2_with fail
            go_quiet (fail)
            go_wp2_with fail
            go_roundw
            case rel => exact ⟨k + 1, by omega, by go_num, by rw [hT1.out], by rw [hT1.out], by rw [hT1.out], by rw [hT1.out]; exact hokc.out, by rw [hT1.out]; simp only; omega, by rw [hT1.out]; simp only; omega, by rw [hT1.out]; exact hL5.out.bl (Bl.drewN _ _), hF5.out.bl (Bl.drewN _ _), gby_tr hG5.out (gby_of_bl (Bl.drewN _ _) _)⟩
            case measure => simp [intOf]; omega
          · cases stw with
            | true =>
              have hT1 : T (k + 1) = ⟨sa, sl, true, sc.set k c⟩ := by
                rw [hstep.out]
                unfold sendStep
                rw [hm]
                simp only [if_true, hc']
                simp [strk, hpos, hst0]
              replace hT1 := Lib.hid hT1
              go_wp2_with fail
              refine M.out.mono ?_
              rintro e w5 ⟨rfl, hL5, hg5⟩
              have hF5 := hFa.out.gby hg5 hne
              have hG5 := gby_tr hga.out hg5
              have hy5 := var_gby hyv.out hg5 hpy
              have hcell := hL5.at k (by omega)
              rw [hget.out] at hcell
              have y0 := cell_at hy5 0
              have y5 := cell_at hy5 5
              simp only [List.getElem?_toArray, List.getElem?_cons_succ, List.getElem?_cons_zero] at y0 y5
              replace hL5 := Lib.hid hL5; replace hF5 := Lib.hid hF5; replace hG5 := Lib.hid hG5
              clear hg5 hy5
              go_wp2_with fail
              go_quiet (fail)
              go_wp2_with fail
              go_roundw
              case rel => exact ⟨k + 1, by omega, by go_num, by rw [hT1.out], by rw [hT1.out], by rw [hT1.out], by rw [hT1.out]; exact hokc.out, by rw [hT1.out]; simp only; omega, by rw [hT1.out]; simp only; omega, by rw [hT1.out]; exact hL5.out.bl (Bl.drewN _ _), hF5.out.bl (Bl.drewN _ _), gby_tr hG5.out (gby_of_bl (Bl.drewN _ _) _)⟩
              case measure => simp [intOf]; omega
            | false =>
              have hT1 : T (k + 1) = ⟨sa, sl, st, sc.set k c⟩ := by
                rw [hstep.out]
                unfold sendStep
                rw [hm]
                simp only [if_true, hc']
                simp [strk, hpos, hst0]
              replace hT1 := Lib.hid hT1
              go_wp2_with fail
              refine M.out.mono ?_
              rintro e w5 ⟨rfl, hL5, hg5⟩
              have hF5 := hFa.out.gby hg5 hne
              have hG5 := gby_tr hga.out hg5
              have hy5 := var_gby hyv.out hg5 hpy
              have hcell := hL5.at k (by omega)
              rw [hget.out] at hcell
              have y0 := cell_at hy5 0
              have y5 := cell_at hy5 5
              simp only [List.getElem?_toArray, List.getElem?_cons_succ, List.getElem?_cons_zero] at y0 y5
              replace hL5 := Lib.hid hL5; replace hF5 := Lib.hid hF5; replace hG5 := Lib.hid hG5
              clear hg5 hy5
              go_wp2_with fail
              go_quiet (fail)
              go_wp2_with fail
              go_roundw
              case rel => exact ⟨k + 1, by omega, by go_num, by rw [hT1.out], by rw [hT1.out], by rw [hT1.out], by rw [hT1.out]; exact hokc.out, by rw [hT1.out]; simp only; omega, by rw [hT1.out]; simp only; omega, by rw [hT1.out]; exact hL5.out.bl (Bl.drewN _ _), hF5.out.bl (Bl.drewN _ _), gby_tr hG5.out (gby_of_bl (Bl.drewN _ _) _)⟩
              case measure => simp [intOf]; omega
          · have hT1 : T (k + 1) = ⟨sa, true, stw, sc.set k c⟩ := by
              rw [hstep.out]
              unfold sendStep
              rw [hm]
              simp only [if_true, hc']
              simp [strk, hpos, hst0]
            replace hT1 := Lib.hid hT1
            go_wp2_with fail
            refine M.out.mono ?_
            rintro e w5 ⟨rfl, hL5, hg5⟩
            have hF5 := hFa.out.gby hg5 hne
            have hG5 := gby_tr hga.out hg5
            have hy5 := var_gby hyv.out hg5 hpy
            have hcell := hL5.at k (by omega)
            rw [hget.out] at hcell
            have y0 := cell_at hy5 0
            have y5 := cell_at hy5 5
            simp only [List.getElem?_toArray, List.getElem?_cons_succ, List.getElem?_cons_zero] at y0 y5
            replace hL5 := Lib.hid hL5; replace hF5 := Lib.hid hF5; replace hG5 := Lib.hid hG5
            clear hg5 hy5
            go_wp2_with fail
            go_quiet (fail)
            go_wp2_with fail
            go_roundw
            case rel => exact ⟨k + 1, by omega, by go_num, by rw [hT1.out], by rw [hT1.out], by rw [hT1.out], by rw [hT1.out]; exact hokc.out, by rw [hT1.out]; simp only; omega, by rw [hT1.out]; simp only; omega, by rw [hT1.out]; exact hL5.out.bl (Bl.drewN _ _), hF5.out.bl (Bl.drewN _ _), gby_tr hG5.out (gby_of_bl (Bl.drewN _ _) _)⟩
            case measure => simp [intOf]; omega
        · have hneg' : decide (0 < xn) = false := decide_eq_false hpos
          have hneg2 : decide (xn > 0) = false := decide_eq_false hpos
          rcases hkk with rfl | rfl | rfl | rfl
          · cases sl with
            | true =>
              have hT1 : T (k + 1) = ⟨sa, true, stw, sc.set k c⟩ := by
                rw [hstep.out]
                unfold sendStep
                rw [hm]
                simp only [if_true, hc']
                simp [strk, hpos]
              replace hT1 := Lib.hid hT1
              go_wp2_with fail
              refine M.out.mono ?_
              rintro e w5 ⟨rfl, hL5, hg5⟩
              have hF5 := hFa.out.gby hg5 hne
              have hG5 := gby_tr hga.out hg5
              have hy5 := var_gby hyv.out hg5 hpy
              have hcell := hL5.at k (by omega)
              rw [hget.out] at hcell
              have y0 := cell_at hy5 0
              have y5 := cell_at hy5 5
              simp only [List.getElem?_toArray, List.getElem?_cons_succ, List.getElem?_cons_zero] at y0 y5
              replace hL5 := Lib.hid hL5; replace hF5 := Lib.hid hF5; replace hG5 := Lib.hid hG5
              clear hg5 hy5
              go_wp2_with fail
              go_quiet (fail)
              go_wp2_with fail
              go_roundw
              case rel => exact ⟨k + 1, by omega, by go_num, by rw [hT1.out], by rw [hT1.out], by rw [hT1.out], by rw [hT1.out]; exact hokc.out, by rw [hT1.out]; simp only; omega, by rw [hT1.out]; simp only; omega, by rw [hT1.out]; exact hL5.out.bl (Bl.drewN _ _), hF5.out.bl (Bl.drewN _ _), gby_tr hG5.out (gby_of_bl (Bl.drewN _ _) _)⟩
              case measure => simp [intOf]; omega
            | false =>
              have hT1 : T (k + 1) = ⟨sa, false, stw, sc.set k c⟩ := by
                rw [hstep.out]
                unfold sendStep
                rw [hm]
                simp only [if_true, hc']
                simp [strk, hpos]
              replace hT1 := Lib.hid hT1
              go_wp2_with fail
              refine M.out.mono ?_
              rintro e w5 ⟨rfl, hL5, hg5⟩
              have hF5 := hFa.out.gby hg5 hne
              have hG5 := gby_tr hga.out hg5
              have hy5 := var_gby hyv.out hg5 hpy
              have hcell := hL5.at k (by omega)
              rw [hget.out] at hcell
              have y0 := cell_at hy5 0
              have y5 := cell_at hy5 5
              simp only [List.getElem?_toArray, List.getElem?_cons_succ, List.getElem?_cons_zero] at y0 y5
              replace hL5 := Lib.hid hL5; replace hF5 := Lib.hid hF5; replace hG5 := Lib.hid hG5
              clear hg5 hy5
              go_wp2_with fail
              go_quiet (fail)
              go_wp2_with fail
              go_roundw
              case rel => exact ⟨k + 1, by omega, by go_num, by rw [hT1.out], by rw [hT1.out], by rw [hT1.out], by rw [hT1.out]; exact hokc.out, by rw [hT1.out]; simp only; omega, by rw [hT1.out]; simp only; omega, by rw [hT1.out]; exact hL5.out.bl (Bl.drewN _ _), hF5.out.bl (Bl.drewN _ _), gby_tr hG5.out (gby_of_bl (Bl.drewN _ _) _)⟩
              case measure => simp [intOf]; omega
          · have hT1 : T (k + 1) = ⟨sa + xn, sl, stw, sc.set k c⟩ := by
              rw [hstep.out]
              unfold sendStep
              rw [hm]
              simp only [if_true, hc']
              simp [strk, hpos]
            replace hT1 := Lib.hid hT1
            go_wp2_with fail
            refine M.out.mono ?_
            rintro e w5 ⟨rfl, hL5, hg5⟩
            have hF5 := hFa.out.gby hg5 hne
            have hG5 := gby_tr hga.out hg5
            have hy5 := var_gby hyv.out hg5 hpy
            have hcell := hL5.at k (by omega)
            rw [hget.out] at hcell
            have y0 := cell_at hy5 0
            have y5 := cell_at hy5 5
            simp only [List.getElem?_toArray, List.getElem?_cons_succ, List.getElem?_cons_zero] at y0 y5
            replace hL5 := Lib.hid hL5; replace hF5 := Lib.hid hF5; replace hG5 := Lib.hid hG5
            clear hg5 hy5
            go_wp2_with fail
            go_quiet (fail)
            go_wp2_with fail
            go_roundw
            case rel => exact ⟨k + 1, by omega, by go_num, by rw [hT1.out], by rw [hT1.out], by rw [hT1.out], by rw [hT1.out]; exact hokc.out, by rw [hT1.out]; simp only; omega, by rw [hT1.out]; simp only; omega, by rw [hT1.out]; exact hL5.out.bl (Bl.drewN _ _), hF5.out.bl (Bl.drewN _ _), gby_tr hG5.out (gby_of_bl (Bl.drewN _ _) _)⟩
            case measure => simp [intOf]; omega
          · cases stw with
            | true =>
              have hT1 : T (k + 1) = ⟨sa, sl, true, sc.set k c⟩ := by
                rw [hstep.out]
                unfold sendStep
                rw [hm]
                simp only [if_true, hc']
                simp [strk, hpos]
              replace hT1 := Lib.hid hT1
              go_wp2_with fail
              refine M.out.mono ?_
              rintro e w5 ⟨rfl, hL5, hg5⟩
              have hF5 := hFa.out.gby hg5 hne
              have hG5 := gby_tr hga.out hg5
              have hy5 := var_gby hyv.out hg5 hpy
              have hcell := hL5.at k (by omega)
              rw [hget.out] at hcell
              have y0 := cell_at hy5 0
              have y5 := cell_at hy5 5
              simp only [List.getElem?_toArray, List.getElem?_cons_succ, List.getElem?_cons_zero] at y0 y5
              replace hL5 := Lib.hid hL5; replace hF5 := Lib.hid hF5; replace hG5 := Lib.hid hG5
              clear hg5 hy5
              go_wp2_with fail
              go_quiet (fail)
              go_wp2_with fail
              go_roundw
              case rel => exact ⟨k + 1, by omega, by go_num, by rw [hT1.out], by rw [hT1.out], by rw [hT1.out], by rw [hT1.out]; exact hokc.out, by rw [hT1.out]; simp only; omega, by rw [hT1.out]; simp only; omega, by rw [hT1.out]; exact hL5.out.bl (Bl.drewN _ _), hF5.out.bl (Bl.drewN _ _), gby_tr hG5.out (gby_of_bl (Bl.drewN _ _) _)⟩
              case measure => simp [intOf]; omega
            | false =>
              have hT1 : T (k + 1) = ⟨sa, sl, false, sc.set k c⟩ := by
                rw [hstep.out]
                unfold sendStep
                rw [hm]
                simp only [if_true, hc']
                simp [strk, hpos]
              replace hT1 := Lib.hid hT1
              go_wp2_with fail
              refine M.out.mono ?_
              rintro e w5 ⟨rfl, hL5, hg5⟩
              have hF5 := hFa.out.gby hg5 hne
              have hG5 := gby_tr hga.out hg5
              have hy5 := var_gby hyv.out hg5 hpy
              have hcell := hL5.at k (by omega)
              rw [hget.out] at hcell
              have y0 := cell_at hy5 0
              have y5 := cell_at hy5 5
              simp only [List.getElem?_toArray, List.getElem?_cons_succ, List.getElem?_cons_zero] at y0 y5
              replace hL5 := Lib.hid hL5; replace hF5 := Lib.hid hF5; replace hG5 := Lib.hid hG5
              clear hg5 hy5
              go_wp2_with fail
              go_quiet (fail)
              go_wp2_with fail
              go_roundw
              case rel => exact ⟨k + 1, by omega, by go_num, by rw [hT1.out], by rw [hT1.out], by rw [hT1.out], by rw [hT1.out]; exact hokc.out, by rw [hT1.out]; simp only; omega, by rw [hT1.out]; simp only; omega, by rw [hT1.out]; exact hL5.out.bl (Bl.drewN _ _), hF5.out.bl (Bl.drewN _ _), gby_tr hG5.out (gby_of_bl (Bl.drewN _ _) _)⟩
              case measure => simp [intOf]; omega
          · have hT1 : T (k + 1) = ⟨sa, true, stw, sc.set k c⟩ := by
              rw [hstep.out]
              unfold sendStep
              rw [hm]
              simp only [if_true, hc']
              simp [strk, hpos]
            replace hT1 := Lib.hid hT1
            go_wp2_with fail
            refine M.out.mono ?_
            rintro e w5 ⟨rfl, hL5, hg5⟩
            have hF5 := hFa.out.gby hg5 hne
            have hG5 := gby_tr hga.out hg5
            have hy5 := var_gby hyv.out hg5 hpy
            have hcell := hL5.at k (by omega)
            rw [hget.out] at hcell
            have y0 := cell_at hy5 0
            have y5 := cell_at hy5 5
            simp only [List.getElem?_toArray, List.getElem?_cons_succ, List.getElem?_cons_zero] at y0 y5
            replace hL5 := Lib.hid hL5; replace hF5 := Lib.hid hF5; replace hG5 := Lib.hid hG5
            clear hg5 hy5
            go_wp2_with fail
            go_quiet (fail)
            go_wp2_with fail
            go_roundw
            case rel => exact ⟨k + 1, by omega, by go_num, by rw [hT1.out], by rw [hT1.out], by rw [hT1.out], by rw [hT1.out]; exact hokc.out, by rw [hT1.out]; simp only; omega, by rw [hT1.out]; simp only; omega, by rw [hT1.out]; exact hL5.out.bl (Bl.drewN _ _), hF5.out.bl (Bl.drewN _ _), gby_tr hG5.out (gby_of_bl (Bl.drewN _ _) _)⟩
            case measure => simp [intOf]; omega
    · obtain rfl : k = N := by omega
      obtain ⟨s, hs⟩ : ∃ z, T k = z := ⟨_, rfl⟩
      rw [hs] at hok a0 a1 hL
      simp only [hs]
      have hgs := hgr.size
      replace hL := Lib.hid hL; replace hgr := Lib.hid hgr
      obtain ⟨sa, sl, stw, sc⟩ := s
      simp only at *
      cases sl with
      | true =>
        go_wp2_with fail
        go_ret
        refine ⟨_, rfl, ?_⟩
        first | exact ⟨World.ownsRow_nil _ _ _ _, hL.out, hgr.out⟩ | (rw [hs]; exact ⟨World.ownsRow_nil _ _ _ _, hL.out, hgr.out⟩)
      | false =>
        cases stw with
        | true =>
          have hI := World.ownsRow_lit (base := wr.heap.size) (e := 3) (size := 1) wr ([sa, sa + 1].map I).toArray 2 (Nat.le_refl _) (by simp [maxLen]) (by simp)
          replace hI := Lib.hid (own_base hI hgs)
          go_wp2_with fail
          go_ret
          refine ⟨_, rfl, ?_⟩
          first | exact ⟨hI.out, hL.out.bl ((Bl.rfl' _).al _), gby_tr hgr.out (gby_of_bl ((Bl.rfl' _).al _) _)⟩ | (rw [hs]; exact ⟨hI.out, hL.out.bl ((Bl.rfl' _).al _), gby_tr hgr.out (gby_of_bl ((Bl.rfl' _).al _) _)⟩)
        | false =>
          have hI := World.ownsRow_lit (base := wr.heap.size) (e := 3) (size := 1) wr ([sa].map I).toArray 1 (Nat.le_refl _) (by simp [maxLen]) (by simp)
          replace hI := Lib.hid (own_base hI hgs)
          go_wp2_with fail
          go_ret
          refine ⟨_, rfl, ?_⟩
          first | exact ⟨hI.out, hL.out.bl ((Bl.rfl' _).al _), gby_tr hgr.out (gby_of_bl ((Bl.rfl' _).al _) _)⟩ | (rw [hs]; exact ⟨hI.out, hL.out.bl ((Bl.rfl' _).al _), gby_tr hgr.out (gby_of_bl ((Bl.rfl' _).al _) _)⟩)
end Go.Proofs.Ytndipeipcodidaa.link
