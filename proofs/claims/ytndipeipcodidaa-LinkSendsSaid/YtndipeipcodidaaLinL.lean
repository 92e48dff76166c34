/-
  The document's Sees and Send.
-/
import Derived.Test.YtndipeipcodidaaLinK
import Derived.Test.YtndipeipcodidaaLinI
namespace Go.Proofs.Ytndipeipcodidaa.link
open Go.ChangeShapes Go.WideShapes Go.ChangeAt Go.RowKit
set_option linter.unusedVariables false
set_option linter.unusedSimpArgs false

set_option maxHeartbeats 4000000 in
theorem seesR_any (x : Flt) (now u v : Int) (w : World) : Calls Try.prog 22 #[fv x, .int .i64 now, .int .i64 u, .int .i64 v] w fun e w' => e = .returned (.bool (way x && seesB x now u v)) ∧ Bl w w' := by
  have T := Lib.hid (fun w => thereR_any x now w)
  have W := Lib.hid (fun w => way_any x.k w)
  unfold seesB
  obtain ⟨th, hth⟩ : ∃ z_, (thereB x now) = z_ := ⟨_, rfl⟩
  rw [hth] at T ⊢
  obtain ⟨k, f, t, a, b, n⟩ := x
  unfold touch way
  simp only at T W ⊢
  obtain ⟨wy, hwy⟩ : ∃ z_, (k == 1 || k == 2 || k == 3 || k == 4) = z_ := ⟨_, rfl⟩
  rw [hwy] at W ⊢
  have hy0 := heap_alloc_new w (.cells #[I k, I f, I t, I a, I b, I n] 40)
  have hb0 := (Bl.rfl' w).al (.cells #[I k, I f, I t, I a, I b, I n] 40)
  clear hth hwy
  cases wy with
  | false =>
    clear hy0
    replace hb0 := Lib.hid hb0
    go_enter Try.func22, Try.ntmps22
    go_wp2_with fail
    with_reducible refine (W.out _).mono ?_
    rintro e w' ⟨rfl, rfl⟩
    go_wp2_with fail
    go_ret
    exact ⟨rfl, hb0.out⟩
  | true =>
    cases th with
    | false =>
      clear hy0
      replace hb0 := Lib.hid hb0
      go_enter Try.func22, Try.ntmps22
      go_wp2_with fail
      with_reducible refine (W.out _).mono ?_
      rintro e w' ⟨rfl, rfl⟩
      go_wp2_with fail
      with_reducible refine (T.out _).mono ?_
      rintro e w1 ⟨rfl, hb1⟩
      have hb := Lib.hid (hb0.out.tr hb1)
      go_wp2_with fail
      go_ret
      exact ⟨rfl, hb.out⟩
    | true =>
      by_cases hbb : b = -1
      · subst hbb
        obtain ⟨p1, h1⟩ : ∃ z_, (a == u) = z_ := ⟨_, rfl⟩
        obtain ⟨p2, h2⟩ : ∃ z_, (a == v) = z_ := ⟨_, rfl⟩
        rw [h1, h2]
        cases p1 <;> cases p2
        all_goals
          replace hb0 := Lib.hid hb0
          replace hy0 := Lib.hid hy0
          go_enter Try.func22, Try.ntmps22
          go_wp2_with fail
          with_reducible refine (W.out _).mono ?_
          rintro e w' ⟨rfl, rfl⟩
          go_wp2_with fail
          with_reducible refine (T.out _).mono ?_
          rintro e w1 ⟨rfl, hb1⟩
          have hb := Lib.hid (hb0.out.tr hb1)
          have hy1 := var_bl hy0.out hb1
          have c3 := cell_at hy1 3
          have c4 := cell_at hy1 4
          simp only [List.getElem?_toArray, List.getElem?_cons_succ, List.getElem?_cons_zero] at c3 c4
          clear hy1 hb1
          go_wp2_with fail
          go_ret
          exact ⟨ret_bool (by simp), hb.out⟩
      · have hb5 : (b == -1) = false := beq_eq_false_iff_ne.2 hbb
        obtain ⟨p1, h1⟩ : ∃ z_, (a == u) = z_ := ⟨_, rfl⟩
        obtain ⟨p2, h2⟩ : ∃ z_, (a == v) = z_ := ⟨_, rfl⟩
        obtain ⟨p3, h3⟩ : ∃ z_, (b == v) = z_ := ⟨_, rfl⟩
        obtain ⟨p4, h4⟩ : ∃ z_, (b == u) = z_ := ⟨_, rfl⟩
        rw [h1, h2, h3, h4, hb5]
        cases p1 <;> cases p2 <;> cases p3 <;> cases p4
        all_goals
          replace hb0 := Lib.hid hb0
          replace hy0 := Lib.hid hy0
          go_enter Try.func22, Try.ntmps22
          go_wp2_with fail
          with_reducible refine (W.out _).mono ?_
          rintro e w' ⟨rfl, rfl⟩
          go_wp2_with fail
          with_reducible refine (T.out _).mono ?_
          rintro e w1 ⟨rfl, hb1⟩
          have hb := Lib.hid (hb0.out.tr hb1)
          have hy1 := var_bl hy0.out hb1
          have c3 := cell_at hy1 3
          have c4 := cell_at hy1 4
          simp only [List.getElem?_toArray, List.getElem?_cons_succ, List.getElem?_cons_zero] at c3 c4
          clear hy1 hb1
          go_wp2_with fail
          go_ret
          exact ⟨ret_bool (by simp), hb.out⟩

theorem take_set_snoc (l : List Int) (k : Nat) (c : Int) (h : k < l.length) : (l.set k c).take (k + 1) = l.take k ++ [c] := by
  rw [take_snoc _ k 0 (by rw [List.length_set]; exact h), getD_set, if_pos ⟨rfl, h⟩, List.take_set_of_le (Nat.le_refl _)]

def SendRD (A : List Flt) (now u v hop : Int) (cnt : List Int) (w : World) : Ending → World → Prop := fun e w' => ∃ vr vn, e = .returned (.tuple #[vr, vn]) ∧ Own w' w.heap.size vr (sent (sq A now u v hop cnt)) ∧ Own w' w.heap.size vn ((sq A now u v hop cnt).cnt.take A.length) ∧ Bl w w'





set_option maxHeartbeats 40000000 in
set_option maxRecDepth 20000 in
theorem sendR_any (w : World) (g : Nat) (hop : Int) (a : Option Addr) (cap : Nat) (A : List Flt) (cnt : List Int) (v2 : Value) (z : List Int) (now u v b : Int) (hA : FRow w g a A) (hN : A.length ≤ 8) (hF : ∀ x ∈ A, okG x) (hc : okC b cnt) (hz : ∀ i, i < A.length → z.getD i 0 = cnt.getD i 0) (hzl : z.length ≤ 8) (hv2 : IntsAt w v2 z) (b1 : b ≤ 500000) (t0 : 0 ≤ now) (t1 : now ≤ 1000000) (h0 : 0 ≤ hop) (h1 : hop ≤ 1000000) :
    Calls Try.prog 12 #[.int .i64 hop, .slice a A.length cap, v2, .int .i64 now, .int .i64 u, .int .i64 v] w (SendRD A now u v hop cnt w) := by
  obtain ⟨iu, hiu, zu0, zu1, zu2⟩ := info_parts (show (Try.prog.info? 3).map (fun i => (i.zero, i.size, i.bytes)) = some (some (I 0), 1, 8) by kernel_rfl)
  have hFF : ∀ i, i < A.length → okG (A.getD i fl0) := fun i hi => hF _ (getD_mem A i fl0 hi)
  unfold SendRD sq
  obtain ⟨N, hNN⟩ : ∃ z_, (A.length) = z_ := ⟨_, rfl⟩
  rw [hNN] at hN hFF hz ⊢
  obtain ⟨T, hT⟩ : ∃ T : Nat → SS, sendTo A now u v ⟨now + hop, false, false, cnt⟩ = T := ⟨_, rfl⟩
  have hT0 : T 0 = ⟨now + hop, false, false, cnt⟩ := by rw [← hT]; rfl
  have hTs : ∀ k, T (k + 1) = sendStep now u v (T k) k (A.getD k fl0) := fun k => by rw [← hT]; rfl
  have hTc : ∀ k, (T k).cnt.length = 40 ∧ ∀ i, k ≤ i → (T k).cnt.getD i 0 = cnt.getD i 0 := fun k => by
    rw [← hT]
    have := sendTo_cnt A now u v ⟨now + hop, false, false, cnt⟩ hc.1 k
    exact ⟨this.1, this.2.1⟩
  rw [hT]
  have SR := Lib.hid (fun x w => seesR_any x now u v w)
  obtain ⟨a2, c2, rfl, R2⟩ := rd_any hv2
  obtain ⟨L2, hL2⟩ : ∃ z_, (z.length) = z_ := ⟨_, rfl⟩
  rw [hL2] at R2 hzl ⊢
  have hz0 : ∀ i, L2 ≤ i → z.getD i 0 = 0 := fun i hi => by
    rw [List.getD_eq_getElem?_getD, List.getElem?_eq_none (by omega)]; rfl
  replace hNN := Lib.hid hNN
  replace hFF := Lib.hid hFF
  replace hT0 := Lib.hid hT0
  replace hTs := Lib.hid hTs
  replace hTc := Lib.hid hTc
  replace hA := Lib.hid hA
  replace hc := Lib.hid hc
  replace hz := Lib.hid hz
  replace hz0 := Lib.hid hz0
  replace R2 := Lib.hid R2
  clear hF hT hv2 hL2
  go_enter Try.func12, Try.ntmps12
  go_wp2_with fail
  go_loopw [14, 15, 16, 17, 18] (fun nx ls tw at_ i wr => ∃ k : Nat, k ≤ N ∧ i = I k ∧ at_ = I (T k).at_ ∧ ls = .bool (T k).lost ∧ tw = .bool (T k).twice ∧ 0 ≤ (T k).at_ ∧ (T k).at_ ≤ 2000000 + 10000 * k ∧ okC (b + k) (T k).cnt ∧ wr.ownsRow w.heap.size 3 1 nx k (((T k).cnt.take k).map I) ∧ Bl w wr) (fun _ _ _ _ i _ => N - (intOf i).toNat)
  case atStart => exact ⟨0, by omega, rfl, by rw [hT0.out], by rw [hT0.out], by rw [hT0.out], by rw [hT0.out]; simp only; omega, by rw [hT0.out]; simp only; omega, by rw [hT0.out]; exact hc.out.mono (by simp), World.ownsRow_nil _ _ _ _, Bl.rfl' _⟩
  case round =>
    obtain ⟨k, hkN, rfl, rfl, rfl, rfl, a0, a1, hok, hown, hbr⟩ := hrel
    by_cases hlt : k < N
    · obtain ⟨rfl, q0, q1, q2, q3, q4, q5⟩ := (hA.out.bl hbr).c k (by rw [hNN.out]; exact hlt)
      have hfk := hFF.out k hlt
      have hstep := hTs.out k
      obtain ⟨hcl, hcg⟩ := hTc.out k
      have hcg := hcg k (Nat.le_refl _)
      rw [← hz.out k hlt] at hcg
      have hck := hok.2 k
      have hok2 := hok.set k
      rw [show b + (k : Int) + 1 = b + ((k + 1 : Nat) : Int) by omega] at hok2
      have hok1 : okC (b + ((k + 1 : Nat) : Int)) (T k).cnt := hok.mono (by omega)
      rw [hcg] at hck hok2
      have hsn := take_snoc (T k).cnt k 0 (by rw [hcl]; omega)
      rw [hcg] at hsn
      have hrd : L2 ≤ k ∨ k < L2 := by omega
      have hz1 := hz0.out k
      have hR2 := fun w' hb (h : k < L2) => R2.out w' hb k h
      simp only [icell] at hR2
      obtain ⟨nk, hnk⟩ : ∃ z_, (z.getD k 0) = z_ := ⟨_, rfl⟩
      rw [hnk] at hcg hck hok2 hsn hz1
      simp only [hnk] at hR2
      obtain ⟨x, hx⟩ : ∃ z_, (A.getD k fl0) = z_ := ⟨_, rfl⟩
      simp only [hx] at q0 q1 q2 q3 q4 q5 hfk hstep
      obtain ⟨s, hs⟩ : ∃ z_, (T k) = z_ := ⟨_, rfl⟩
      simp only [hs] at hcl hcg hok hok1 hok2 hsn hown hstep a0 a1 ⊢
      have hset := take_set_snoc s.cnt k (nk + 1) (by rw [hcl]; omega)
      have SX := SR.out x
      obtain ⟨m, hm⟩ : ∃ z_, (way x && seesB x now u v) = z_ := ⟨_, rfl⟩
      rw [hm] at SX
      replace hx := Lib.hid hx
      replace hstep := Lib.hid hstep
      replace hok1 := Lib.hid hok1
      replace hok2 := Lib.hid hok2
      replace hsn := Lib.hid hsn
      replace hset := Lib.hid hset
      replace hbr := Lib.hid hbr
      replace hown := Lib.hid hown
      replace hR2 := Lib.hid hR2
      replace SX := Lib.hid SX
      replace hcl := Lib.hid hcl
      clear hok hnk hs
      obtain ⟨sa, sl, stw, sc⟩ := s
      obtain ⟨xk, xf, xt, xa, xb, xn⟩ := x
      simp only at *
      obtain ⟨c, hc'⟩ : ∃ z_, (nk + 1) = z_ := ⟨_, rfl⟩
      simp only [hc'] at hok2 hset
      have hcb : 1 ≤ c ∧ c ≤ 1000000 := by omega
      rcases hrd with hrd | hrd
      · have h00 : Value.int .i64 0 = .int .i64 nk := by rw [hz1 hrd]
        replace h00 := Lib.hid h00
        replace hz1 := Lib.hid hz1
        go_upto_region 11 with fail
        rw [h00.out]
        clear h00
        cases m with
        | false =>
          have hT1 : T (k + 1) = ⟨sa, sl, stw, sc⟩ := by rw [hstep.out]; unfold sendStep; rw [hm]; simp
          replace hT1 := Lib.hid hT1
          go_wp2_with fail
          refine (SX.out _).mono ?_
          rintro e w5 ⟨rfl, hb5⟩
          have hown := own_below hown.out hb5
          have hbr5 := Lib.hid (hbr.out.tr hb5)
          clear hb5
          have hown1 := Lib.hid hown
          have hlt1 := Lib.hid ((hown.alloc (.cells #[I nk] 3)).lt)
          have hbs := hbr5.out.size
          go_wp2_with (at_builtin; refine wpList_append_one rfl _ _ 22 rfl w.heap.size 3 iu (I 0) 8 Try.underlying22 hiu zu0 zu1 zu2 rfl _ k _ rfl hown1.out (I nk) _ rfl 1 rfl (by omega) (by omega) (by omega) ?_)
          intro b' cap' w7 hown' hgrow
          have hb7 := hbr5.out.grown hgrow (fun k hk => (hown1.out.lt k hk).1)
          replace hown' := Lib.hid hown'
          replace hb7 := Lib.hid hb7
          clear hlt1 hown1
          go_wp2_with fail
          go_roundw
          case measure => simp [intOf]; omega
          case rel => exact ⟨k + 1, by omega, by go_num, by rw [hT1.out], by rw [hT1.out], by rw [hT1.out], by rw [hT1.out]; simp only; omega, by rw [hT1.out]; simp only; omega, by rw [hT1.out]; exact hok1.out, by rw [hT1.out]; have h9 := hown'.out; simp only [hsn.out, List.map_append, List.map_take, List.map_cons, List.map_nil] at h9 ⊢; exact h9, hb7.out⟩
        | true =>
          have hwy : way ⟨xk, xf, xt, xa, xb, xn⟩ = true := by
            cases hw : way ⟨xk, xf, xt, xa, xb, xn⟩ with
            | true => rfl
            | false => rw [hw] at hm; simp at hm
          have hkk : xk = 4 ∨ (0 < xn ∧ (xk = 1 ∨ xk = 2 ∨ xk = 3)) := by
            have := hfk.2.1 hwy
            unfold way at hwy
            simp only [Bool.or_eq_true, beq_iff_eq] at hwy
            by_cases h4 : xk = 4
            · exact Or.inl h4
            · exact Or.inr ⟨by have := this h4; simp only at this; omega, by omega⟩
          have hxn := hfk.1
          simp only at hxn
          clear hwy hfk hok1
          rcases hkk with rfl | ⟨hpos, hkk⟩
          · cases sl <;> cases stw
            all_goals
              have hT1 := hstep.out
              unfold sendStep at hT1
              rw [hm] at hT1
              simp only [if_true, hcg, hc'] at hT1
              simp at hT1
              replace hT1 := Lib.hid hT1
              clear hm
              go_wp2_with fail
              refine (SX.out _).mono ?_
              rintro e w5 ⟨rfl, hb5⟩
              have hown := own_below hown.out hb5
              have hbr5 := Lib.hid (hbr.out.tr hb5)
              obtain ⟨_, q0, q1, q2, q3, q4, q5⟩ := (hA.out.bl hbr5.out).c k (by rw [hNN.out]; exact hlt)
              rw [hx.out] at q0 q1 q2 q3 q4 q5
              simp only at q0 q1 q2 q3 q4 q5
              clear hb5
              have hown1 := Lib.hid hown
              have hlt1 := Lib.hid ((hown.alloc (.cells #[I c] 3)).lt)
              have hbs := hbr5.out.size
              go_wp2_with (at_builtin; refine wpList_append_one rfl _ _ 22 rfl w.heap.size 3 iu (I 0) 8 Try.underlying22 hiu zu0 zu1 zu2 rfl _ k _ rfl hown1.out (I c) _ rfl 1 rfl (by omega) (by omega) (by omega) ?_)
              intro b' cap' w7 hown' hgrow
              have hb7 := hbr5.out.grown hgrow (fun k hk => (hown1.out.lt k hk).1)
              replace hown' := Lib.hid hown'
              replace hb7 := Lib.hid hb7
              clear hlt1 hown1
              go_wp2_with fail
              go_roundw
              case measure => simp [intOf]; omega
              case rel => exact ⟨k + 1, by omega, by go_num, by rw [hT1.out], by rw [hT1.out], by rw [hT1.out], by rw [hT1.out]; simp only; omega, by rw [hT1.out]; simp only; omega, by rw [hT1.out]; exact hok2.out, by rw [hT1.out]; have h9 := hown'.out; simp only [hset.out, List.map_append, List.map_take, List.map_cons, List.map_nil] at h9 ⊢; exact h9, hb7.out⟩
          · have hq : c.tmod xn = c % xn := Int.tmod_eq_emod_of_nonneg (by omega)
            have hq0 := Int.emod_nonneg c (show xn ≠ 0 by omega)
            have hq1 := Int.emod_lt_of_pos c hpos
            obtain ⟨r, hr⟩ : ∃ z_, (c % xn) = z_ := ⟨_, rfl⟩
            rw [hr] at hq hq0 hq1
            have hxn0 : ¬ xn = 0 := by omega
            have hst0 : (c % xn == 0) = (r == 0) := by rw [hr]
            obtain ⟨st, hst⟩ : ∃ z_, (r == 0) = z_ := ⟨_, rfl⟩
            rw [hst] at hst0
            replace hst0 := Lib.hid hst0
            rcases hkk with rfl | rfl | rfl <;> cases sl <;> cases stw
            all_goals
              have hT1 := hstep.out
              unfold sendStep at hT1
              rw [hm] at hT1
              simp only [if_true, hcg, hc'] at hT1
              simp [strk, hpos, hst0.out] at hT1
              replace hT1 := Lib.hid hT1
              clear hm
              go_wp2_with fail
              refine (SX.out _).mono ?_
              rintro e w5 ⟨rfl, hb5⟩
              have hown := own_below hown.out hb5
              have hbr5 := Lib.hid (hbr.out.tr hb5)
              obtain ⟨_, q0, q1, q2, q3, q4, q5⟩ := (hA.out.bl hbr5.out).c k (by rw [hNN.out]; exact hlt)
              rw [hx.out] at q0 q1 q2 q3 q4 q5
              simp only at q0 q1 q2 q3 q4 q5
              clear hb5
              have hown1 := Lib.hid hown
              have hlt1 := Lib.hid ((hown.alloc (.cells #[I c] 3)).lt)
              have hbs := hbr5.out.size
              go_wp2_with (at_builtin; refine wpList_append_one rfl _ _ 22 rfl w.heap.size 3 iu (I 0) 8 Try.underlying22 hiu zu0 zu1 zu2 rfl _ k _ rfl hown1.out (I c) _ rfl 1 rfl (by omega) (by omega) (by omega) ?_)
              intro b' cap' w7 hown' hgrow
              have hb7 := hbr5.out.grown hgrow (fun k hk => (hown1.out.lt k hk).1)
              replace hown' := Lib.hid hown'
              replace hb7 := Lib.hid hb7
              clear hlt1 hown1
              go_wp2_with fail
              go_roundw
              case measure => simp [intOf]; omega
              case rel => exact ⟨k + 1, by omega, by go_num, by rw [hT1.out], by rw [hT1.out], by rw [hT1.out], by rw [hT1.out]; simp only; omega, by rw [hT1.out]; simp only; omega, by rw [hT1.out]; exact hok2.out, by rw [hT1.out]; have h9 := hown'.out; simp only [hset.out, List.map_append, List.map_take, List.map_cons, List.map_nil] at h9 ⊢; exact h9, hb7.out⟩
      · obtain ⟨b2, o2, rfl, r2⟩ := hR2.out wr hbr.out hrd
        go_upto_region 11 with fail
        cases m with
        | false =>
          have hT1 : T (k + 1) = ⟨sa, sl, stw, sc⟩ := by rw [hstep.out]; unfold sendStep; rw [hm]; simp
          replace hT1 := Lib.hid hT1
          go_wp2_with fail
          refine (SX.out _).mono ?_
          rintro e w5 ⟨rfl, hb5⟩
          have hown := own_below hown.out hb5
          have hbr5 := Lib.hid (hbr.out.tr hb5)
          clear hb5
          have hown1 := Lib.hid hown
          have hlt1 := Lib.hid ((hown.alloc (.cells #[I nk] 3)).lt)
          have hbs := hbr5.out.size
          go_wp2_with (at_builtin; refine wpList_append_one rfl _ _ 22 rfl w.heap.size 3 iu (I 0) 8 Try.underlying22 hiu zu0 zu1 zu2 rfl _ k _ rfl hown1.out (I nk) _ rfl 1 rfl (by omega) (by omega) (by omega) ?_)
          intro b' cap' w7 hown' hgrow
          have hb7 := hbr5.out.grown hgrow (fun k hk => (hown1.out.lt k hk).1)
          replace hown' := Lib.hid hown'
          replace hb7 := Lib.hid hb7
          clear hlt1 hown1
          go_wp2_with fail
          go_roundw
          case measure => simp [intOf]; omega
          case rel => exact ⟨k + 1, by omega, by go_num, by rw [hT1.out], by rw [hT1.out], by rw [hT1.out], by rw [hT1.out]; simp only; omega, by rw [hT1.out]; simp only; omega, by rw [hT1.out]; exact hok1.out, by rw [hT1.out]; have h9 := hown'.out; simp only [hsn.out, List.map_append, List.map_take, List.map_cons, List.map_nil] at h9 ⊢; exact h9, hb7.out⟩
        | true =>
          have hwy : way ⟨xk, xf, xt, xa, xb, xn⟩ = true := by
            cases hw : way ⟨xk, xf, xt, xa, xb, xn⟩ with
            | true => rfl
            | false => rw [hw] at hm; simp at hm
          have hkk : xk = 4 ∨ (0 < xn ∧ (xk = 1 ∨ xk = 2 ∨ xk = 3)) := by
            have := hfk.2.1 hwy
            unfold way at hwy
            simp only [Bool.or_eq_true, beq_iff_eq] at hwy
            by_cases h4 : xk = 4
            · exact Or.inl h4
            · exact Or.inr ⟨by have := this h4; simp only at this; omega, by omega⟩
          have hxn := hfk.1
          simp only at hxn
          clear hwy hfk hok1
          rcases hkk with rfl | ⟨hpos, hkk⟩
          · cases sl <;> cases stw
            all_goals
              have hT1 := hstep.out
              unfold sendStep at hT1
              rw [hm] at hT1
              simp only [if_true, hcg, hc'] at hT1
              simp at hT1
              replace hT1 := Lib.hid hT1
              clear hm
              go_wp2_with fail
              refine (SX.out _).mono ?_
              rintro e w5 ⟨rfl, hb5⟩
              have hown := own_below hown.out hb5
              have hbr5 := Lib.hid (hbr.out.tr hb5)
              obtain ⟨_, q0, q1, q2, q3, q4, q5⟩ := (hA.out.bl hbr5.out).c k (by rw [hNN.out]; exact hlt)
              rw [hx.out] at q0 q1 q2 q3 q4 q5
              simp only at q0 q1 q2 q3 q4 q5
              clear hb5
              have hown1 := Lib.hid hown
              have hlt1 := Lib.hid ((hown.alloc (.cells #[I c] 3)).lt)
              have hbs := hbr5.out.size
              go_wp2_with (at_builtin; refine wpList_append_one rfl _ _ 22 rfl w.heap.size 3 iu (I 0) 8 Try.underlying22 hiu zu0 zu1 zu2 rfl _ k _ rfl hown1.out (I c) _ rfl 1 rfl (by omega) (by omega) (by omega) ?_)
              intro b' cap' w7 hown' hgrow
              have hb7 := hbr5.out.grown hgrow (fun k hk => (hown1.out.lt k hk).1)
              replace hown' := Lib.hid hown'
              replace hb7 := Lib.hid hb7
              clear hlt1 hown1
              go_wp2_with fail
              go_roundw
              case measure => simp [intOf]; omega
              case rel => exact ⟨k + 1, by omega, by go_num, by rw [hT1.out], by rw [hT1.out], by rw [hT1.out], by rw [hT1.out]; simp only; omega, by rw [hT1.out]; simp only; omega, by rw [hT1.out]; exact hok2.out, by rw [hT1.out]; have h9 := hown'.out; simp only [hset.out, List.map_append, List.map_take, List.map_cons, List.map_nil] at h9 ⊢; exact h9, hb7.out⟩
          · have hq : c.tmod xn = c % xn := Int.tmod_eq_emod_of_nonneg (by omega)
            have hq0 := Int.emod_nonneg c (show xn ≠ 0 by omega)
            have hq1 := Int.emod_lt_of_pos c hpos
            obtain ⟨r, hr⟩ : ∃ z_, (c % xn) = z_ := ⟨_, rfl⟩
            rw [hr] at hq hq0 hq1
            have hxn0 : ¬ xn = 0 := by omega
            have hst0 : (c % xn == 0) = (r == 0) := by rw [hr]
            obtain ⟨st, hst⟩ : ∃ z_, (r == 0) = z_ := ⟨_, rfl⟩
            rw [hst] at hst0
            replace hst0 := Lib.hid hst0
            rcases hkk with rfl | rfl | rfl <;> cases sl <;> cases stw
            all_goals
              have hT1 := hstep.out
              unfold sendStep at hT1
              rw [hm] at hT1
              simp only [if_true, hcg, hc'] at hT1
              simp [strk, hpos, hst0.out] at hT1
              replace hT1 := Lib.hid hT1
              clear hm
              go_wp2_with fail
              refine (SX.out _).mono ?_
              rintro e w5 ⟨rfl, hb5⟩
              have hown := own_below hown.out hb5
              have hbr5 := Lib.hid (hbr.out.tr hb5)
              obtain ⟨_, q0, q1, q2, q3, q4, q5⟩ := (hA.out.bl hbr5.out).c k (by rw [hNN.out]; exact hlt)
              rw [hx.out] at q0 q1 q2 q3 q4 q5
              simp only at q0 q1 q2 q3 q4 q5
              clear hb5
              have hown1 := Lib.hid hown
              have hlt1 := Lib.hid ((hown.alloc (.cells #[I c] 3)).lt)
              have hbs := hbr5.out.size
              go_wp2_with (at_builtin; refine wpList_append_one rfl _ _ 22 rfl w.heap.size 3 iu (I 0) 8 Try.underlying22 hiu zu0 zu1 zu2 rfl _ k _ rfl hown1.out (I c) _ rfl 1 rfl (by omega) (by omega) (by omega) ?_)
              intro b' cap' w7 hown' hgrow
              have hb7 := hbr5.out.grown hgrow (fun k hk => (hown1.out.lt k hk).1)
              replace hown' := Lib.hid hown'
              replace hb7 := Lib.hid hb7
              clear hlt1 hown1
              go_wp2_with fail
              go_roundw
              case measure => simp [intOf]; omega
              case rel => exact ⟨k + 1, by omega, by go_num, by rw [hT1.out], by rw [hT1.out], by rw [hT1.out], by rw [hT1.out]; simp only; omega, by rw [hT1.out]; simp only; omega, by rw [hT1.out]; exact hok2.out, by rw [hT1.out]; have h9 := hown'.out; simp only [hset.out, List.map_append, List.map_take, List.map_cons, List.map_nil] at h9 ⊢; exact h9, hb7.out⟩
    · obtain rfl : k = N := by omega
      obtain ⟨s, hs⟩ : ∃ z_, (T k) = z_ := ⟨_, rfl⟩
      simp only [hs] at a0 a1 hown ⊢
      obtain ⟨sa, sl, stw, sc⟩ := s
      simp only at a0 a1 hown ⊢
      have hcl := (hTc.out k).1
      rw [hs] at hcl
      simp only at hcl
      have hvn : Own wr w.heap.size u14 (sc.take k) := by
        unfold Own
        rw [List.length_take, Nat.min_eq_left (by omega)]
        exact hown
      have hbs := hbr.size
      replace hvn := Lib.hid hvn
      replace hbr := Lib.hid hbr
      replace hs := Lib.hid hs
      clear hown hcl
      cases sl with
      | true =>
        go_wp2_with fail
        go_ret2
        exact ⟨_, _, rfl, by rw [hs.out]; exact World.ownsRow_nil _ _ _ _, by rw [hs.out]; exact hvn.out, hbr.out⟩
      | false =>
        cases stw with
        | true =>
          have hal := hbr.out.al (.cells #[I sa, I (sa + 1)] 3)
          have ho1 : Own (wr.alloc (.cells #[I sa, I (sa + 1)] 3)) w.heap.size (.slice (some ⟨wr.heap.size, 0, none⟩) 2 2) [sa, sa + 1] := World.ownsRow_lit (base := w.heap.size) (e := 3) (size := 1) wr #[I sa, I (sa + 1)] 2 (by omega) (by decide) (by simp)
          have ho2 := hvn.out.bl ((Bl.rfl' wr).al (.cells #[I sa, I (sa + 1)] 3))
          replace hal := Lib.hid hal
          replace ho1 := Lib.hid ho1
          replace ho2 := Lib.hid ho2
          go_wp2_with fail
          go_ret2
          exact ⟨_, _, rfl, by rw [hs.out]; exact ho1.out, by rw [hs.out]; exact ho2.out, hal.out⟩
        | false =>
          have hal := hbr.out.al (.cells #[I sa] 3)
          have ho1 : Own (wr.alloc (.cells #[I sa] 3)) w.heap.size (.slice (some ⟨wr.heap.size, 0, none⟩) 1 1) [sa] := World.ownsRow_lit (base := w.heap.size) (e := 3) (size := 1) wr #[I sa] 1 (by omega) (by decide) (by simp)
          have ho2 := hvn.out.bl ((Bl.rfl' wr).al (.cells #[I sa] 3))
          replace hal := Lib.hid hal
          replace ho1 := Lib.hid ho1
          replace ho2 := Lib.hid ho2
          go_wp2_with fail
          go_ret2
          exact ⟨_, _, rfl, by rw [hs.out]; exact ho1.out, by rw [hs.out]; exact ho2.out, hal.out⟩
end Go.Proofs.Ytndipeipcodidaa.link
