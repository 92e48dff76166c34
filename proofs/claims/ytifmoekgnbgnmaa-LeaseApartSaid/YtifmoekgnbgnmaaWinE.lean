/-
  The law's windows: the row of what happens in each window.
-/
import Derived.Test.YtifmoekgnbgnmaaWinD
namespace Go.Proofs.Ytifmoekgnbgnmaa.lease
open Go.ChangeShapes Go.WideShapes Go.ChangeAt Go.RowKit
set_option linter.unusedVariables false
set_option linter.unusedSimpArgs false

theorem infoW : (Try.prog.info? 57).map (fun i => (i.zero, i.size, i.bytes)) = some (some (.agg #[I 0, I 0, I 0, .bool false]), 4, 32) := by kernel_rfl
def WinD (L W S : Int) (A : List AC) (w : World) : Ending → World → Prop := fun e w' => ∃ v b0, e = .returned v ∧ w.heap.size ≤ b0 ∧ w'.ownsRow b0 57 4 v (winds L W S A).length (flatW (winds L W S A)) ∧ Bl w w'
theorem y_cells {w : World} {y : Nat} {a b c : Int} {f : Bool} {t : TypeId} (h : w.heap[y]? = some (.cells #[I a, I b, I c, .bool f] t (0, 0))) : w.cell? ⟨y, 0, none⟩ = some (I a) ∧ w.cell? ⟨y, 1, none⟩ = some (I b) ∧ w.cell? ⟨y, 2, none⟩ = some (I c) ∧ w.cell? ⟨y, 3, none⟩ = some (.bool f) := by
  refine ⟨?_, ?_, ?_, ?_⟩ <;> simp [World.cell?, h]
theorem acts_at (A : List AC) (k : Nat) (h : k < A.length) : A.take (k + 1) = A.take k ++ [A.getD k (0, 0, 0)] := take_snoc A k _ h

theorem SW.tch {w0 w w' : World} {L W S : Int} {x pL cs b0 : Nat} {pp : Nat → Nat} {s : Side} (h : SW w0 L W S x pL cs pp w s) (P : PlW w0 x pL cs b0 pp) (hg : Tch (fun k => b0 ≤ k) w w') : SW w0 L W S x pL cs pp w' s := by
  have h1 := P.o0; have h2 := P.o1; have h3 := P.o3; have h4 := P.o2 0 (by omega)
  refine ⟨hg.var h.hx (by omega), h.hL.tch hg (by omega), fun i hi => (h.hC i hi).tch hg (by have := P.o2 i hi; omega), hg.var h.hcs (by omega), h.bl.tch hg (fun k hk => by omega)⟩
theorem tch_row {ps : Nat → Prop} {w w' : World} {row : Option Nat} (h : w.grownBy w' row) (hp : ∀ p, row = some p → ps p) : Tch ps w w' := ⟨h.os, h.tape, h.output, h.size, fun k hk hn => h.block k hk (fun e => hn (hp k e.symm))⟩
theorem step_out {L W S : Int} {r : Run} {x : AC} {pre : List Win} {v : Win} (hb : begun r.pre r.last (x.2.1 / W) = (pre, v)) : (runStep L W S r x).out = pre ++ [winStep v x (sideStep L W S r.side x).2] ∧ (runStep L W S r x).side = (sideStep L W S r.side x).1 ∧ (runStep L W S r x).last = some (winStep v x (sideStep L W S r.side x).2) := by
  unfold runStep Run.out
  rw [hb]
  exact ⟨rfl, rfl, rfl⟩
theorem step_side {L W S : Int} {r : Run} {x : AC} : (runStep L W S r x).side = (sideStep L W S r.side x).1 := rfl
theorem last_cells {w : World} {b0 ob m cq : Nat} {pre : List Win} {v : Win} {T : TypeId} (h : w.ownsRow b0 T 4 (.slice (some ⟨ob, 0, none⟩) (m + 1) cq) (m + 1) (flatW (pre ++ [v]))) (hm : pre.length = m) :
    w.cell? ⟨ob, m * 4, none⟩ = some (I v.1) ∧ w.cell? ⟨ob, m * 4 + 1, none⟩ = some (I v.2.1) ∧ w.cell? ⟨ob, m * 4 + 2, none⟩ = some (I v.2.2.1) ∧ w.cell? ⟨ob, m * 4 + 3, none⟩ = some (.bool v.2.2.2) ∧ ∀ i, w.frozen? ⟨ob, i, none⟩ = false := by
  subst hm
  obtain ⟨h1, h2, h3, h4⟩ := flatW_last pre v
  exact ⟨(h.cellAt _ (by omega)).trans h1, (h.cellAt _ (by omega)).trans h2, (h.cellAt _ (by omega)).trans h3, (h.cellAt _ (by omega)).trans h4, fun i => h.frozenAt i⟩
/-- The last element, stored anew. -/
theorem last_set {w : World} {b0 ob m cq : Nat} {pre : List Win} {v : Win} {T : TypeId} (u : Win) (h : w.ownsRow b0 T 4 (.slice (some ⟨ob, 0, none⟩) (m + 1) cq) (m + 1) (flatW (pre ++ [v]))) (hm : pre.length = m) :
    ((((w.setCell ⟨ob, m * 4, none⟩ (I u.1)).setCell ⟨ob, m * 4 + 1, none⟩ (I u.2.1)).setCell ⟨ob, m * 4 + 2, none⟩ (I u.2.2.1)).setCell ⟨ob, m * 4 + 3, none⟩ (.bool u.2.2.2)).ownsRow b0 T 4 (.slice (some ⟨ob, 0, none⟩) (m + 1) cq) (m + 1) (flatW (pre ++ [u])) ∧
    w.grownBy ((((w.setCell ⟨ob, m * 4, none⟩ (I u.1)).setCell ⟨ob, m * 4 + 1, none⟩ (I u.2.1)).setCell ⟨ob, m * 4 + 2, none⟩ (I u.2.2.1)).setCell ⟨ob, m * 4 + 3, none⟩ (.bool u.2.2.2)) (some ob) := by
  subst hm
  obtain ⟨s1, g1⟩ := h.stored (pre.length * 4) (I u.1)
  obtain ⟨s2, g2⟩ := s1.stored (pre.length * 4 + 1) (I u.2.1)
  obtain ⟨s3, g3⟩ := s2.stored (pre.length * 4 + 2) (I u.2.2.1)
  obtain ⟨s4, g4⟩ := s3.stored (pre.length * 4 + 3) (.bool u.2.2.2)
  rw [flatW_set] at s4
  exact ⟨s4, gby_tr (gby_tr (gby_tr g1 g2) g3) g4⟩

set_option maxHeartbeats 4000000 in
set_option maxRecDepth 20000 in
theorem windows_any (L W S : Int) (w : World) (g : Nat) (a : Option Addr) (cap : Nat) (A : List AC) (hA : ARow w g a A) (hok : okAs A) (hb : okR L W S) :
    Calls Try.prog 28 #[rate L W S, .slice a A.length cap] w (WinD L W S A w) := by
  obtain ⟨N, hN⟩ : ∃ N, A.length = N := ⟨_, rfl⟩
  rw [hN]
  go_enter Try.func28, Try.ntmps28
  go_wp2_with fail
  refine (limiter_any L W S _).mono ?_
  rintro e w2 ⟨pL, rfl, hpL, hL, hb2⟩
  have hx2 := var_bl (heap_alloc_new w (.cells #[I L, I W, I S] 23)) hb2
  obtain ⟨x, hx⟩ : ∃ x, w.heap.size = x := ⟨_, rfl⟩
  have o1 : x < pL := by simp at hpL; omega
  have hb0 : Bl w w2 := ((Bl.rfl' w).al _).tr hb2
  rw [hx] at hx2
  clear hb2 hpL
  obtain ⟨d0, d1, d2⟩ := var_cells hx2
  go_upto_region 2 with fail
  go_cut [6] from 11 to 19 (fun cv wx => Three w2 L W S cv wx)
  case first =>
    have K := Lib.hid (fun w' (hb : Bl w2 w') => var_cells (var_bl hx2 hb))
    have M := Lib.hid (Made.mk (Bl.rfl' w2).dr (L := L) (W := W) (S := S) (fun p hp => by simp at hp) List.nodup_nil)
    go_region_held3 (fun w' => Bl w2 w' ∧ w'.cell? ⟨x, 0, none⟩ = some (I L) ∧ w'.cell? ⟨x, 1, none⟩ = some (I W) ∧ w'.cell? ⟨x, 2, none⟩ = some (I S))
      ((go_split_ands; first | exact ⟨M.out.bl, K.out _ M.out.bl⟩ | exact ⟨Bl.al M.out.bl _, K.out _ (Bl.al M.out.bl _)⟩ | (refine ⟨?h1, K.out _ ?h1⟩; first | assumption | exact Bl.rfl' _ | exact Bl.dr (by first | assumption | exact Bl.rfl' _) | exact Bl.tr (by assumption) (by assumption))))
      (first | (go_at_call 18; go_split_ands; refine (client_any L W S _).mono ?_; rintro e wN ⟨p, rfl, hp, hC, hbN⟩; replace M := Lib.hid (M.out.more hp hC hbN); clear hp hC hbN))
    all_goals
      go_wp2_with fail
      go_meet
      case rel => exact three_mk M.out
  case rest =>
    obtain ⟨cs, pp, rfl, hcs, hb3, o2, o3, o4⟩ := hcut
    obtain ⟨iu, hiu, zu0, zu1, zu2⟩ := info_parts infoW
    have hS0 : SW w L W S x pL cs pp wc none0.side := ⟨var_bl hx2 hb3, hL.bl hb3, fun i hi => (o3 i hi).2.2, hcs, hb0.tr hb3⟩
    have hlt2 := hL.lt
    have P : PlW w x pL cs wc.heap.size pp := ⟨by omega, o1, fun i hi => by have := o3 i hi; omega, lt_of_block hcs, o4⟩
    obtain ⟨b0, hb0'⟩ : ∃ q, wc.heap.size = q := ⟨_, rfl⟩
    rw [hb0'] at P
    have hbb : b0 ≤ wc.heap.size := by omega
    have hwb : w.heap.size ≤ b0 := by have := hS0.bl.size; omega
    have hq0 : ∀ k, k < N → okA (A.getD k (0, 0, 0)) := fun k hk => hok.2.1 _ (by
      rw [List.getD_eq_getElem?_getD, List.getElem?_eq_getElem (by omega)]; exact List.getElem_mem _)
    have hN60 : N ≤ 60 := by rw [← hN]; exact hok.1
    replace hq0 := Lib.hid hq0; replace hA := Lib.hid hA; replace hS0 := Lib.hid hS0; replace hN := Lib.hid hN
    have hb' := hb
    obtain ⟨L0, L1, W0, W1, S0, S1⟩ := hb'
    replace hb := Lib.hid hb
    clear hx2 hL hb0 d0 d1 d2 hcs hb3 o1 o2 o3 o4 hlt2 hok
    go_wp2_with fail
    go_loopw [7, 8] (fun o i wr => ∃ (k : Nat) (r : Run), k ≤ N ∧ i = I k ∧ r = runs L W S (A.take k) ∧ SB L r.side ∧ SW w L W S x pL cs pp wr r.side ∧ b0 ≤ wr.heap.size ∧ (r.last = none → r.pre = []) ∧ r.out.length ≤ k ∧ (∀ v, r.last = some v → 0 ≤ v.2.1 ∧ v.2.1 ≤ k ∧ 0 ≤ v.2.2.1 ∧ v.2.2.1 ≤ k) ∧ wr.ownsRow b0 57 4 o r.out.length (flatW r.out)) (fun _ i _ => N - (intOf i).toNat)
    case atStart => exact ⟨0, none0, by omega, rfl, rfl, ⟨by simp [none0], by simp [none0]; omega, fun i => by simp [none0]⟩, hS0.out, hbb, fun _ => rfl, by simp [none0, Run.out], fun v hv => by simp [none0] at hv, World.ownsRow_nil _ _ _ _⟩
    case round =>
      obtain ⟨k, r, hkN, rfl, hr, hSB, hS, hwz, hln, hout, hcnt, hown⟩ := hrel
      clear hS0
      by_cases hlt : k < N
      · obtain ⟨rfl, q0, q1, q2⟩ := (hA.out.bl hS.bl).c k (by rw [hN.out]; exact hlt)
        have hrn := runs_snoc L W S (A.take k) (A.getD k (0, 0, 0))
        rw [← acts_at A k (by rw [hN.out]; exact hlt), ← hr] at hrn
        have hqk := hq0.out k hlt
        obtain ⟨xx, hxx⟩ : ∃ q, A.getD k (0, 0, 0) = q := ⟨_, rfl⟩
        rw [hxx] at q0 q1 q2 hrn hqk
        obtain ⟨d, t, b⟩ := xx
        obtain ⟨hd, t0, t1, bb0, bb1⟩ := hqk
        simp only at q0 q1 q2 hd t0 t1 bb0 bb1
        obtain ⟨b, rfl⟩ : ∃ n : Nat, b = n := ⟨b.toNat, by omega⟩
        have hq := div_bd t0 (show t ≤ 1000000 by omega) W0
        have htd : t.tdiv W = t / W := Int.tdiv_eq_ediv_of_nonneg t0
        obtain ⟨q, hqq⟩ : ∃ q, t / W = q := ⟨_, rfl⟩
        have hW : ¬ W = 0 := by omega
        have hwd : IntKind.i64.wrap (t.tdiv W) = q := by rw [htd, hqq, IntKind.wrap_i64]; omega
        rw [hqq] at hq htd
        have hd0 := hS.hx
        obtain ⟨d0, d1, d2⟩ := var_cells hd0
        have hS1 := hS.step (Bl.rfl' wr).dr
        have hown1 := own_below hown (Bl.rfl' wr).dr
        obtain ⟨wd, hwd'⟩ : ∃ q, wr.drew = q := ⟨_, rfl⟩
        have hdz : b0 ≤ wr.drew.heap.size := hwz
        rw [hwd'] at hS1 hown1 hdz
        replace hS1 := Lib.hid hS1; replace hown1 := Lib.hid hown1; replace hwd' := Lib.hid hwd'
        replace hrn := Lib.hid hrn
        have hxx' := Lib.hid hxx
        clear hS hown hd0 hr hxx
        cases hl : r.last with
        | none =>
          have hon : r.out = [] := (out_len r hln).2 hl
          rw [hon] at hown1
          obtain ⟨oa, oc, rfl⟩ := own_zero hown1.out
          go_wp2_with fail
          go_region
          rw [hwd'.out]
          go_wp2_with (at_builtin; refine wpList_append_row rfl _ _ 54 rfl b0 57 iu (.agg #[I 0, I 0, I 0, .bool false]) 4 32 Try.underlying54 hiu zu0 zu1 zu2 rfl (by decide) _ 0 (flatW ([] : List Win)) rfl hown1.out #[I q, I 0, I 0, .bool false] _ rfl (by intro u hu; simp at hu; rcases hu with rfl | rfl | rfl | rfl <;> rfl) 1 rfl (by omega) (by omega) (by omega) ?_)
          intro ob cq wq hown' hgrow
          have hSq := hS1.out.tch P (tch_row hgrow (fun p hp => (hown1.out.lt p hp).1))
          have hownq : wq.ownsRow b0 57 4 (.slice (some ⟨ob, 0, none⟩) (0 + 1) cq) (0 + 1) (flatW (([] : List Win) ++ [(q, 0, 0, false)])) := by rw [flatW_app]; exact hown'
          have hqz : b0 ≤ wq.heap.size := Nat.le_trans hdz (hgrow.size)
          clear hown' hgrow
          have hpn := hln hl
          have hbeg : begun r.pre r.last ((d, t, (b : Int)).2.1 / W) = (([] : List Win), (q, (0 : Int), (0 : Int), false)) := by
            show begun r.pre r.last (t / W) = _
            rw [hqq, hl]; rw [hpn]; rfl
          obtain ⟨so1, so2, so3⟩ := step_out (L := L) (S := S) hbeg
          obtain ⟨c0, c1, c2, c3, cf⟩ := last_cells hownq rfl
          simp only [Nat.zero_mul, Nat.zero_add] at c0 c1 c2 c3
          have hoby : ob < wq.heap.size := (hownq.lt ob rfl).2
          have hobb : b0 ≤ ob := (hownq.lt ob rfl).1
          have hpLb : pL < b0 := by have := P.o2 0 (by omega); have := P.o3; omega
          replace hownq := Lib.hid hownq
          replace hSq := Lib.hid hSq
          rcases hd with rfl | rfl
          · have hyv := heap_alloc_new wq (.cells #[I q, I (1 : Int), I (0 : Int), .bool false] 57)
            have hSy := hSq.out.step ((Bl.rfl' wq).al (.cells #[I q, I (1 : Int), I (0 : Int), .bool false] 57)).dr
            have hoy := own_below hownq.out ((Bl.rfl' wq).al (.cells #[I q, I (1 : Int), I (0 : Int), .bool false] 57)).dr
            have hyv := var_bl hyv (Bl.rfl' _).dr
            have hAy := hA.out.bl hSy.bl
            obtain ⟨_, k0, k1, k2⟩ := hAy.c k (by rw [hN.out]; exact hlt)
            rw [hxx'.out] at k0 k1 k2
            simp only at k0 k1 k2
            have hsy : wq.heap.size < (wq.alloc (.cells #[I q, I (1 : Int), I (0 : Int), .bool false] 57)).drew.heap.size := lt_of_block hyv
            obtain ⟨y, hy⟩ : ∃ zz, wq.heap.size = zz := ⟨_, rfl⟩
            replace hSy := Lib.hid hSy
            replace hoy := Lib.hid hoy
            replace hyv := Lib.hid hyv
            replace hAy := Lib.hid hAy
            have hAz := hA.out.bl (hSq.out.bl.al (.cells #[I q, I (0 : Int), I (0 : Int), .bool false] 57))
            obtain ⟨_, j0, _, _⟩ := hAz.c k (by rw [hN.out]; exact hlt)
            rw [hxx'.out] at j0
            simp only at j0
            clear hAz
            have kk0 := Lib.hid k0; have kk1 := Lib.hid k1; have kk2 := Lib.hid k2
            clear k0 k1 k2
            go_wp2_with fail
            obtain ⟨w3, hw3⟩ : ∃ zz, (wq.alloc (.cells #[I q, I (1 : Int), I (0 : Int), .bool false] 57)).drew = zz := ⟨_, rfl⟩
            have hSy := hSy.out; have hoy := hoy.out; have hyv := hyv.out; have k0 := kk0.out; have k1 := kk1.out; have k2 := kk2.out
            rw [hw3] at hSy hoy hyv k0 k1 k2 hsy
            rw [hy] at hyv hoby hsy hqz
            have hcb : w3.cell? ⟨cs, b, none⟩ = some (ptr (pp b)) := by
              rw [cell_at hSy.hcs]
              have hb3 : b = 0 ∨ b = 1 ∨ b = 2 := by omega
              rcases hb3 with rfl | rfl | rfl <;> rfl
            have hpb := P.o2 b (by omega)
            have AD := Lib.hid (admits_any w3 pL (pp b) L W S r.side.lim (r.side.cl b) t hSy.hL (hSy.hC b (by omega)) (by omega) hb.out t0 (by omega) hSB.1 hSB.2.1 (hSB.2.2 b).1 (hSB.2.2 b).2)
            refine wp_region_still_tail 14 (by kernel_rfl) (by kernel_rfl) ?_
            simp only [List.take_succ_cons, List.take_zero, List.drop_succ_cons, List.drop_zero]
            change wpStill _ _ (wq.alloc (.cells #[I q, I (1 : Int), I (0 : Int), .bool false] 57)).drew (fun a' => wpList _ _ _ _ a' (wq.alloc (.cells #[I q, I (1 : Int), I (0 : Int), .bool false] 57)).drew) _ _
            rw [hw3]
            clear hw3
            repeat still_step
            try refine wpStill_nil ?_
            go_wp2_with fail
            refine AD.out.mono ?_
            rintro e w5 ⟨rfl, hl5, hc5, ht5⟩
            have hS5 := hSy.adm P (show b < 3 by omega) hl5 hc5 ht5
            have ho5 := ht5.own hoy (fun p hp => by have := P.o3; omega)
            have hy5 := ht5.var hyv (by have := P.o3; omega)
            have hside : (sideStep L W S r.side (0, t, (b : Int))).1 = ⟨(admit L W S r.side.lim (r.side.cl b) t).1, upd r.side.cl b (admit L W S r.side.lim (r.side.cl b) t).2.1⟩ := by simp [sideStep]
            have hsad : (sideStep L W S r.side (0, t, (b : Int))).2 = (admit L W S r.side.lim (r.side.cl b) t).2.2 := by simp [sideStep]
            rw [hsad] at so1 so3
            rw [hside] at so2
            clear hl5 hc5 ht5 hSy hoy hyv AD k0 k1 k2 hcb c0 c1 c2 c3 cf
            obtain ⟨is, his⟩ : ∃ zz, (admit L W S r.side.lim (r.side.cl b) t).2.2 = zz := ⟨_, rfl⟩
            rw [his] at so1 so3 ⊢
            clear his
            obtain ⟨sd, hsd⟩ : ∃ zz, (⟨(admit L W S r.side.lim (r.side.cl b) t).1, upd r.side.cl b (admit L W S r.side.lim (r.side.cl b) t).2.1⟩ : Side) = zz := ⟨_, rfl⟩
            rw [hsd] at hS5 so2
            have hsdB : SB L sd := by rw [← so2, step_side]; exact hSB.step hb.out _
            clear hsd hside hsad
            cases is with
            | true =>
              obtain ⟨_, _, y2, _⟩ := y_cells hy5
              have fy := free_at hy5 2
              have hy6 := set_at 2 (I (1 : Int)) hy5
              simp only [List.setIfInBounds_toArray, List.set_cons_zero, List.set_cons_succ] at hy6
              have g6 := gby_set w5 y 2 (I (1 : Int))
              have ho6 := ho5.kept g6 (Or.inr (by simp [Value.ownBlock]; omega))
              have hS6 := hS5.tch P (Tch.gby g6 (by omega))
              obtain ⟨e0, e1, e2, e3⟩ := y_cells hy6
              obtain ⟨c0, c1, c2, c3, cf⟩ := last_cells ho6 rfl
              simp only [Nat.zero_mul, Nat.zero_add] at c0 c1 c2 c3
              obtain ⟨ho7, g7⟩ := last_set (q, (1 : Int), (1 : Int), false) ho6 rfl
              have hS7 := hS6.tch P (Tch.gby g7 hobb)
              simp only [Nat.zero_mul, Nat.zero_add] at ho7 hS7
              replace ho7 := Lib.hid ho7; replace hS7 := Lib.hid hS7
              have hney : ob ≠ y := by omega
              clear ho6 hS6 hy6 g7
              go_wp2_with fail
              go_roundw
              case rel =>
                have hU : winStep (q, (0 : Int), (0 : Int), false) (0, t, (b : Int)) true = (q, (1 : Int), (1 : Int), false) := by simp [winStep]
                rw [hU] at so1 so3
                have hz7 := (ho7.out.lt ob rfl).2
                refine ⟨k + 1, runStep L W S r (0, t, (b : Int)), by omega, by go_num, hrn.out.symm, by rw [so2]; exact hsdB, by rw [so2]; exact hS7.out, Nat.le_trans hobb (Nat.le_of_lt hz7), (fun h => by rw [so3] at h; exact absurd h (by simp)), (by rw [so1, List.length_append, List.length_nil]; simp only [List.length_cons, List.length_nil]; omega), (fun v hv => by rw [so3] at hv; obtain rfl := Option.some.inj hv; simp only; omega), (by rw [so1, List.length_append, List.length_nil]; exact ho7.out)⟩
              case measure => simp [intOf] <;> omega
            | false =>
              have hy6 := hy5
              have ho6 := ho5
              have hS6 := hS5
              obtain ⟨e0, e1, e2, e3⟩ := y_cells hy6
              obtain ⟨c0, c1, c2, c3, cf⟩ := last_cells ho6 rfl
              simp only [Nat.zero_mul, Nat.zero_add] at c0 c1 c2 c3
              obtain ⟨ho7, g7⟩ := last_set (q, (1 : Int), (0 : Int), false) ho6 rfl
              have hS7 := hS6.tch P (Tch.gby g7 hobb)
              simp only [Nat.zero_mul, Nat.zero_add] at ho7 hS7
              replace ho7 := Lib.hid ho7; replace hS7 := Lib.hid hS7
              have hney : ob ≠ y := by omega
              clear ho6 hS6 hy6 g7
              go_wp2_with fail
              go_roundw
              case rel =>
                have hU : winStep (q, (0 : Int), (0 : Int), false) (0, t, (b : Int)) false = (q, (1 : Int), (0 : Int), false) := by simp [winStep]
                rw [hU] at so1 so3
                have hz7 := (ho7.out.lt ob rfl).2
                refine ⟨k + 1, runStep L W S r (0, t, (b : Int)), by omega, by go_num, hrn.out.symm, by rw [so2]; exact hsdB, by rw [so2]; exact hS7.out, Nat.le_trans hobb (Nat.le_of_lt hz7), (fun h => by rw [so3] at h; exact absurd h (by simp)), (by rw [so1, List.length_append, List.length_nil]; simp only [List.length_cons, List.length_nil]; omega), (fun v hv => by rw [so3] at hv; obtain rfl := Option.some.inj hv; simp only; omega), (by rw [so1, List.length_append, List.length_nil]; exact ho7.out)⟩
              case measure => simp [intOf] <;> omega
          · have hyv := heap_alloc_new wq (.cells #[I q, I (0 : Int), I (0 : Int), .bool false] 57)
            have hSy := hSq.out.step ((Bl.rfl' wq).al (.cells #[I q, I (0 : Int), I (0 : Int), .bool false] 57))
            have hoy := own_below hownq.out ((Bl.rfl' wq).al (.cells #[I q, I (0 : Int), I (0 : Int), .bool false] 57))
            have FL := Lib.hid (forget_any _ pL L W S _ _ t hSy.hL hb.out t0 (by omega))
            have hAy := hA.out.bl hSy.bl
            have hAq := hA.out.bl hSq.out.bl
            obtain ⟨_, k0, k1, _⟩ := hAy.c k (by rw [hN.out]; exact hlt)
            obtain ⟨_, j0, j1, _⟩ := hAq.c k (by rw [hN.out]; exact hlt)
            rw [hxx'.out] at k0 k1 j0 j1
            simp only at k0 k1 j0 j1
            have hsy : wq.heap.size < (wq.alloc (.cells #[I q, I (0 : Int), I (0 : Int), .bool false] 57)).heap.size := lt_of_block hyv
            replace hSy := Lib.hid hSy; replace hoy := Lib.hid hoy; replace hyv := Lib.hid hyv
            clear hAy hAq
            go_wp2_with fail
            refine FL.out.mono ?_
            rintro e w5 ⟨rfl, hl5, hg5⟩
            have hS5 := hSy.out.lim P hl5 hg5
            have ho5 := hoy.out.kept hg5 (own_ne hoy.out hpLb)
            have hy5 := var_gby hyv.out hg5 (by omega)
            obtain ⟨y, hy⟩ : ∃ zz, wq.heap.size = zz := ⟨_, rfl⟩
            rw [hy] at hy5 hoby hsy hqz ⊢
            have hside : (sideStep L W S r.side (2, t, (b : Int))).1 = ⟨(t / W, L), r.side.cl⟩ := by simp [sideStep]
            have hsad : (sideStep L W S r.side (2, t, (b : Int))).2 = false := by simp [sideStep]
            rw [hsad] at so1 so3
            rw [hside] at so2
            clear hl5 hg5 hSy hoy hyv FL k0 k1 j0 j1 c0 c1 c2 c3 cf
            obtain ⟨sd, hsd⟩ : ∃ zz, (⟨(t / W, L), r.side.cl⟩ : Side) = zz := ⟨_, rfl⟩
            rw [hsd] at hS5 so2
            have hsdB : SB L sd := by rw [← so2, step_side]; exact hSB.step hb.out _
            clear hsd hside hsad
            obtain ⟨_, _, _, y3⟩ := y_cells hy5
            have fy := free_at hy5 3
            have hy6 := set_at 3 (.bool true) hy5
            simp only [List.setIfInBounds_toArray, List.set_cons_zero, List.set_cons_succ] at hy6
            have g6 := gby_set w5 y 3 (.bool true)
            have ho6 := ho5.kept g6 (Or.inr (by simp [Value.ownBlock]; omega))
            have hS6 := hS5.tch P (Tch.gby g6 (by omega))
            obtain ⟨e0, e1, e2, e3⟩ := y_cells hy6
            obtain ⟨c0, c1, c2, c3, cf⟩ := last_cells ho6 rfl
            simp only [Nat.zero_mul, Nat.zero_add] at c0 c1 c2 c3
            obtain ⟨ho7, g7⟩ := last_set (q, (0 : Int), (0 : Int), true) ho6 rfl
            have hS7 := hS6.tch P (Tch.gby g7 hobb)
            simp only [Nat.zero_mul, Nat.zero_add] at ho7 hS7
            replace ho7 := Lib.hid ho7; replace hS7 := Lib.hid hS7
            have hney : ob ≠ y := by omega
            clear ho6 hS6 hy6 g7
            go_wp2_with fail
            go_roundw
            case rel =>
              have hU : winStep (q, (0 : Int), (0 : Int), false) (2, t, (b : Int)) false = (q, (0 : Int), (0 : Int), true) := by simp [winStep]
              rw [hU] at so1 so3
              have hz7 := (ho7.out.lt ob rfl).2
              refine ⟨k + 1, runStep L W S r (2, t, (b : Int)), by omega, by go_num, hrn.out.symm, by rw [so2]; exact hsdB, by rw [so2]; exact hS7.out, Nat.le_trans hobb (Nat.le_of_lt hz7), (fun h => by rw [so3] at h; exact absurd h (by simp)), (by rw [so1, List.length_append, List.length_nil]; simp only [List.length_cons, List.length_nil]; omega), (fun v hv => by rw [so3] at hv; obtain rfl := Option.some.inj hv; simp only; omega), (by rw [so1, List.length_append, List.length_nil]; exact ho7.out)⟩
            case measure => simp [intOf] <;> omega
        | some v =>
          obtain ⟨vk, va, vd, vf⟩ := v
          obtain ⟨hc0, hc1, hc2, hc3⟩ := hcnt _ hl
          simp only at hc0 hc1 hc2 hc3
          have hon : r.out = r.pre ++ [(vk, va, vd, vf)] := by unfold Run.out; rw [hl]; rfl
          rw [hon] at hown1 hout
          obtain ⟨m, hm⟩ : ∃ m, r.pre.length = m := ⟨_, rfl⟩
          have hlen : (r.pre ++ [(vk, va, vd, vf)]).length = m + 1 := by simp [hm]
          rw [hlen] at hown1 hout
          obtain ⟨ob, oc, rfl, hobb0⟩ := own_pos hown1.out (by omega)
          have hobd := (hown1.out.lt ob rfl).2
          obtain ⟨c0, c1, c2, c3, cf⟩ := last_cells hown1.out hm
          simp only at c0 c1 c2 c3
          by_cases hvq : vk = q
          · subst hvq
            have hne : (vk != vk) = false := by simp
            have c0' : wr.cell? ⟨ob, m * 4, none⟩ = some (I vk) := by rw [← hwd'.out] at c0; exact c0
            go_wp2_with fail
            go_region
            rw [hwd'.out]
            have hSq := hS1.out
            have hownq := hown1.out
            have hqz := hdz
            clear c0 c1 c2 c3 cf c0'
            have hbeg : begun r.pre r.last ((d, t, (b : Int)).2.1 / W) = (r.pre, (vk, va, vd, vf)) := by
              show begun r.pre r.last (t / W) = _
              rw [hqq, hl]; simp [begun]
            obtain ⟨so1, so2, so3⟩ := step_out (L := L) (S := S) hbeg
            obtain ⟨c0, c1, c2, c3, cf⟩ := last_cells hownq hm
            simp only [Nat.zero_mul, Nat.zero_add] at c0 c1 c2 c3
            have hoby : ob < wd.heap.size := (hownq.lt ob rfl).2
            have hobb : b0 ≤ ob := (hownq.lt ob rfl).1
            have hpLb : pL < b0 := by have := P.o2 0 (by omega); have := P.o3; omega
            replace hownq := Lib.hid hownq
            replace hSq := Lib.hid hSq
            rcases hd with rfl | rfl
            · have hyv := heap_alloc_new wd (.cells #[I vk, I (va + 1), I vd, .bool vf] 57)
              have hSy := hSq.out.step ((Bl.rfl' wd).al (.cells #[I vk, I (va + 1), I vd, .bool vf] 57)).dr
              have hoy := own_below hownq.out ((Bl.rfl' wd).al (.cells #[I vk, I (va + 1), I vd, .bool vf] 57)).dr
              have hyv := var_bl hyv (Bl.rfl' _).dr
              have hAy := hA.out.bl hSy.bl
              obtain ⟨_, k0, k1, k2⟩ := hAy.c k (by rw [hN.out]; exact hlt)
              rw [hxx'.out] at k0 k1 k2
              simp only at k0 k1 k2
              have hsy : wd.heap.size < (wd.alloc (.cells #[I vk, I (va + 1), I vd, .bool vf] 57)).drew.heap.size := lt_of_block hyv
              obtain ⟨y, hy⟩ : ∃ zz, wd.heap.size = zz := ⟨_, rfl⟩
              replace hSy := Lib.hid hSy
              replace hoy := Lib.hid hoy
              replace hyv := Lib.hid hyv
              replace hAy := Lib.hid hAy
              have hAz := hA.out.bl (hSq.out.bl.al (.cells #[I vk, I va, I vd, .bool vf] 57))
              obtain ⟨_, j0, _, _⟩ := hAz.c k (by rw [hN.out]; exact hlt)
              rw [hxx'.out] at j0
              simp only at j0
              clear hAz
              have kk0 := Lib.hid k0; have kk1 := Lib.hid k1; have kk2 := Lib.hid k2
              clear k0 k1 k2
              go_wp2_with fail
              obtain ⟨w3, hw3⟩ : ∃ zz, (wd.alloc (.cells #[I vk, I (va + 1), I vd, .bool vf] 57)).drew = zz := ⟨_, rfl⟩
              have hSy := hSy.out; have hoy := hoy.out; have hyv := hyv.out; have k0 := kk0.out; have k1 := kk1.out; have k2 := kk2.out
              rw [hw3] at hSy hoy hyv k0 k1 k2 hsy
              rw [hy] at hyv hoby hsy hqz
              have hcb : w3.cell? ⟨cs, b, none⟩ = some (ptr (pp b)) := by
                rw [cell_at hSy.hcs]
                have hb3 : b = 0 ∨ b = 1 ∨ b = 2 := by omega
                rcases hb3 with rfl | rfl | rfl <;> rfl
              have hpb := P.o2 b (by omega)
              have AD := Lib.hid (admits_any w3 pL (pp b) L W S r.side.lim (r.side.cl b) t hSy.hL (hSy.hC b (by omega)) (by omega) hb.out t0 (by omega) hSB.1 hSB.2.1 (hSB.2.2 b).1 (hSB.2.2 b).2)
              refine wp_region_still_tail 14 (by kernel_rfl) (by kernel_rfl) ?_
              simp only [List.take_succ_cons, List.take_zero, List.drop_succ_cons, List.drop_zero]
              change wpStill _ _ (wd.alloc (.cells #[I vk, I (va + 1), I vd, .bool vf] 57)).drew (fun a' => wpList _ _ _ _ a' (wd.alloc (.cells #[I vk, I (va + 1), I vd, .bool vf] 57)).drew) _ _
              rw [hw3]
              clear hw3
              repeat still_step
              try refine wpStill_nil ?_
              go_wp2_with fail
              refine AD.out.mono ?_
              rintro e w5 ⟨rfl, hl5, hc5, ht5⟩
              have hS5 := hSy.adm P (show b < 3 by omega) hl5 hc5 ht5
              have ho5 := ht5.own hoy (fun p hp => by have := P.o3; omega)
              have hy5 := ht5.var hyv (by have := P.o3; omega)
              have hside : (sideStep L W S r.side (0, t, (b : Int))).1 = ⟨(admit L W S r.side.lim (r.side.cl b) t).1, upd r.side.cl b (admit L W S r.side.lim (r.side.cl b) t).2.1⟩ := by simp [sideStep]
              have hsad : (sideStep L W S r.side (0, t, (b : Int))).2 = (admit L W S r.side.lim (r.side.cl b) t).2.2 := by simp [sideStep]
              rw [hsad] at so1 so3
              rw [hside] at so2
              clear hl5 hc5 ht5 hSy hoy hyv AD k0 k1 k2 hcb c0 c1 c2 c3 cf
              obtain ⟨is, his⟩ : ∃ zz, (admit L W S r.side.lim (r.side.cl b) t).2.2 = zz := ⟨_, rfl⟩
              rw [his] at so1 so3 ⊢
              clear his
              obtain ⟨sd, hsd⟩ : ∃ zz, (⟨(admit L W S r.side.lim (r.side.cl b) t).1, upd r.side.cl b (admit L W S r.side.lim (r.side.cl b) t).2.1⟩ : Side) = zz := ⟨_, rfl⟩
              rw [hsd] at hS5 so2
              have hsdB : SB L sd := by rw [← so2, step_side]; exact hSB.step hb.out _
              clear hsd hside hsad
              cases is with
              | true =>
                obtain ⟨_, _, y2, _⟩ := y_cells hy5
                have fy := free_at hy5 2
                have hy6 := set_at 2 (I (vd + 1)) hy5
                simp only [List.setIfInBounds_toArray, List.set_cons_zero, List.set_cons_succ] at hy6
                have g6 := gby_set w5 y 2 (I (vd + 1))
                have ho6 := ho5.kept g6 (Or.inr (by simp [Value.ownBlock]; omega))
                have hS6 := hS5.tch P (Tch.gby g6 (by omega))
                obtain ⟨e0, e1, e2, e3⟩ := y_cells hy6
                obtain ⟨c0, c1, c2, c3, cf⟩ := last_cells ho6 hm
                simp only [Nat.zero_mul, Nat.zero_add] at c0 c1 c2 c3
                obtain ⟨ho7, g7⟩ := last_set (vk, (va + 1), (vd + 1), vf) ho6 hm
                have hS7 := hS6.tch P (Tch.gby g7 hobb)
                simp only [Nat.zero_mul, Nat.zero_add] at ho7 hS7
                replace ho7 := Lib.hid ho7; replace hS7 := Lib.hid hS7
                have hney : ob ≠ y := by omega
                clear ho6 hS6 hy6 g7
                go_wp2_with fail
                go_roundw
                case rel =>
                  have hU : winStep (vk, va, vd, vf) (0, t, (b : Int)) true = (vk, (va + 1), (vd + 1), vf) := by simp [winStep]
                  rw [hU] at so1 so3
                  have hz7 := (ho7.out.lt ob rfl).2
                  refine ⟨k + 1, runStep L W S r (0, t, (b : Int)), by omega, by go_num, hrn.out.symm, by rw [so2]; exact hsdB, by rw [so2]; exact hS7.out, Nat.le_trans hobb (Nat.le_of_lt hz7), (fun h => by rw [so3] at h; exact absurd h (by simp)), (by rw [so1, List.length_append, hm]; simp only [List.length_cons, List.length_nil]; omega), (fun v hv => by rw [so3] at hv; obtain rfl := Option.some.inj hv; simp only; omega), (by rw [so1, List.length_append, hm]; exact ho7.out)⟩
                case measure => simp [intOf] <;> omega
              | false =>
                have hy6 := hy5
                have ho6 := ho5
                have hS6 := hS5
                obtain ⟨e0, e1, e2, e3⟩ := y_cells hy6
                obtain ⟨c0, c1, c2, c3, cf⟩ := last_cells ho6 hm
                simp only [Nat.zero_mul, Nat.zero_add] at c0 c1 c2 c3
                obtain ⟨ho7, g7⟩ := last_set (vk, (va + 1), vd, vf) ho6 hm
                have hS7 := hS6.tch P (Tch.gby g7 hobb)
                simp only [Nat.zero_mul, Nat.zero_add] at ho7 hS7
                replace ho7 := Lib.hid ho7; replace hS7 := Lib.hid hS7
                have hney : ob ≠ y := by omega
                clear ho6 hS6 hy6 g7
                go_wp2_with fail
                go_roundw
                case rel =>
                  have hU : winStep (vk, va, vd, vf) (0, t, (b : Int)) false = (vk, (va + 1), vd, vf) := by simp [winStep]
                  rw [hU] at so1 so3
                  have hz7 := (ho7.out.lt ob rfl).2
                  refine ⟨k + 1, runStep L W S r (0, t, (b : Int)), by omega, by go_num, hrn.out.symm, by rw [so2]; exact hsdB, by rw [so2]; exact hS7.out, Nat.le_trans hobb (Nat.le_of_lt hz7), (fun h => by rw [so3] at h; exact absurd h (by simp)), (by rw [so1, List.length_append, hm]; simp only [List.length_cons, List.length_nil]; omega), (fun v hv => by rw [so3] at hv; obtain rfl := Option.some.inj hv; simp only; omega), (by rw [so1, List.length_append, hm]; exact ho7.out)⟩
                case measure => simp [intOf] <;> omega
            · have hyv := heap_alloc_new wd (.cells #[I vk, I va, I vd, .bool vf] 57)
              have hSy := hSq.out.step ((Bl.rfl' wd).al (.cells #[I vk, I va, I vd, .bool vf] 57))
              have hoy := own_below hownq.out ((Bl.rfl' wd).al (.cells #[I vk, I va, I vd, .bool vf] 57))
              have FL := Lib.hid (forget_any _ pL L W S _ _ t hSy.hL hb.out t0 (by omega))
              have hAy := hA.out.bl hSy.bl
              have hAq := hA.out.bl hSq.out.bl
              obtain ⟨_, k0, k1, _⟩ := hAy.c k (by rw [hN.out]; exact hlt)
              obtain ⟨_, j0, j1, _⟩ := hAq.c k (by rw [hN.out]; exact hlt)
              rw [hxx'.out] at k0 k1 j0 j1
              simp only at k0 k1 j0 j1
              have hsy : wd.heap.size < (wd.alloc (.cells #[I vk, I va, I vd, .bool vf] 57)).heap.size := lt_of_block hyv
              replace hSy := Lib.hid hSy; replace hoy := Lib.hid hoy; replace hyv := Lib.hid hyv
              clear hAy hAq
              go_wp2_with fail
              refine FL.out.mono ?_
              rintro e w5 ⟨rfl, hl5, hg5⟩
              have hS5 := hSy.out.lim P hl5 hg5
              have ho5 := hoy.out.kept hg5 (own_ne hoy.out hpLb)
              have hy5 := var_gby hyv.out hg5 (by omega)
              obtain ⟨y, hy⟩ : ∃ zz, wd.heap.size = zz := ⟨_, rfl⟩
              rw [hy] at hy5 hoby hsy hqz ⊢
              have hside : (sideStep L W S r.side (2, t, (b : Int))).1 = ⟨(t / W, L), r.side.cl⟩ := by simp [sideStep]
              have hsad : (sideStep L W S r.side (2, t, (b : Int))).2 = false := by simp [sideStep]
              rw [hsad] at so1 so3
              rw [hside] at so2
              clear hl5 hg5 hSy hoy hyv FL k0 k1 j0 j1 c0 c1 c2 c3 cf
              obtain ⟨sd, hsd⟩ : ∃ zz, (⟨(t / W, L), r.side.cl⟩ : Side) = zz := ⟨_, rfl⟩
              rw [hsd] at hS5 so2
              have hsdB : SB L sd := by rw [← so2, step_side]; exact hSB.step hb.out _
              clear hsd hside hsad
              obtain ⟨_, _, _, y3⟩ := y_cells hy5
              have fy := free_at hy5 3
              have hy6 := set_at 3 (.bool true) hy5
              simp only [List.setIfInBounds_toArray, List.set_cons_zero, List.set_cons_succ] at hy6
              have g6 := gby_set w5 y 3 (.bool true)
              have ho6 := ho5.kept g6 (Or.inr (by simp [Value.ownBlock]; omega))
              have hS6 := hS5.tch P (Tch.gby g6 (by omega))
              obtain ⟨e0, e1, e2, e3⟩ := y_cells hy6
              obtain ⟨c0, c1, c2, c3, cf⟩ := last_cells ho6 hm
              simp only [Nat.zero_mul, Nat.zero_add] at c0 c1 c2 c3
              obtain ⟨ho7, g7⟩ := last_set (vk, va, vd, true) ho6 hm
              have hS7 := hS6.tch P (Tch.gby g7 hobb)
              simp only [Nat.zero_mul, Nat.zero_add] at ho7 hS7
              replace ho7 := Lib.hid ho7; replace hS7 := Lib.hid hS7
              have hney : ob ≠ y := by omega
              clear ho6 hS6 hy6 g7
              go_wp2_with fail
              go_roundw
              case rel =>
                have hU : winStep (vk, va, vd, vf) (2, t, (b : Int)) false = (vk, va, vd, true) := by simp [winStep]
                rw [hU] at so1 so3
                have hz7 := (ho7.out.lt ob rfl).2
                refine ⟨k + 1, runStep L W S r (2, t, (b : Int)), by omega, by go_num, hrn.out.symm, by rw [so2]; exact hsdB, by rw [so2]; exact hS7.out, Nat.le_trans hobb (Nat.le_of_lt hz7), (fun h => by rw [so3] at h; exact absurd h (by simp)), (by rw [so1, List.length_append, hm]; simp only [List.length_cons, List.length_nil]; omega), (fun v hv => by rw [so3] at hv; obtain rfl := Option.some.inj hv; simp only; omega), (by rw [so1, List.length_append, hm]; exact ho7.out)⟩
              case measure => simp [intOf] <;> omega
          · have hne : (vk != q) = true := bne_iff_ne.2 hvq
            go_wp2_with fail
            go_region
            rw [hwd'.out]
            go_wp2_with (at_builtin; refine wpList_append_row rfl _ _ 54 rfl b0 57 iu (.agg #[I 0, I 0, I 0, .bool false]) 4 32 Try.underlying54 hiu zu0 zu1 zu2 rfl (by decide) _ (m + 1) (flatW (r.pre ++ [(vk, va, vd, vf)])) rfl hown1.out #[I q, I 0, I 0, .bool false] _ rfl (by intro u hu; simp at hu; rcases hu with rfl | rfl | rfl | rfl <;> rfl) 1 rfl (by omega) (by omega) (by omega) ?_)
            intro ob' cq wq hown' hgrow
            have hSq := hS1.out.tch P (tch_row hgrow (fun p hp => (hown1.out.lt p hp).1))
            have hownq : wq.ownsRow b0 57 4 (.slice (some ⟨ob', 0, none⟩) ((m + 1) + 1) cq) ((m + 1) + 1) (flatW ((r.pre ++ [(vk, va, vd, vf)]) ++ [(q, 0, 0, false)])) := by rw [flatW_app]; exact hown'
            have hqz : b0 ≤ wq.heap.size := Nat.le_trans hdz (hgrow.size)
            clear hown' hgrow
            clear c0 c1 c2 c3 cf
            have hbeg : begun r.pre r.last ((d, t, (b : Int)).2.1 / W) = ((r.pre ++ [(vk, va, vd, vf)]), (q, (0 : Int), (0 : Int), false)) := by
              show begun r.pre r.last (t / W) = _
              rw [hqq, hl]; simp [begun, hvq]
            obtain ⟨so1, so2, so3⟩ := step_out (L := L) (S := S) hbeg
            obtain ⟨c0, c1, c2, c3, cf⟩ := last_cells hownq hlen
            simp only [Nat.zero_mul, Nat.zero_add] at c0 c1 c2 c3
            have hoby : ob' < wq.heap.size := (hownq.lt ob' rfl).2
            have hobb : b0 ≤ ob' := (hownq.lt ob' rfl).1
            have hpLb : pL < b0 := by have := P.o2 0 (by omega); have := P.o3; omega
            replace hownq := Lib.hid hownq
            replace hSq := Lib.hid hSq
            rcases hd with rfl | rfl
            · have hyv := heap_alloc_new wq (.cells #[I q, I (1 : Int), I (0 : Int), .bool false] 57)
              have hSy := hSq.out.step ((Bl.rfl' wq).al (.cells #[I q, I (1 : Int), I (0 : Int), .bool false] 57)).dr
              have hoy := own_below hownq.out ((Bl.rfl' wq).al (.cells #[I q, I (1 : Int), I (0 : Int), .bool false] 57)).dr
              have hyv := var_bl hyv (Bl.rfl' _).dr
              have hAy := hA.out.bl hSy.bl
              obtain ⟨_, k0, k1, k2⟩ := hAy.c k (by rw [hN.out]; exact hlt)
              rw [hxx'.out] at k0 k1 k2
              simp only at k0 k1 k2
              have hsy : wq.heap.size < (wq.alloc (.cells #[I q, I (1 : Int), I (0 : Int), .bool false] 57)).drew.heap.size := lt_of_block hyv
              obtain ⟨y, hy⟩ : ∃ zz, wq.heap.size = zz := ⟨_, rfl⟩
              replace hSy := Lib.hid hSy
              replace hoy := Lib.hid hoy
              replace hyv := Lib.hid hyv
              replace hAy := Lib.hid hAy
              have hAz := hA.out.bl (hSq.out.bl.al (.cells #[I q, I (0 : Int), I (0 : Int), .bool false] 57))
              obtain ⟨_, j0, _, _⟩ := hAz.c k (by rw [hN.out]; exact hlt)
              rw [hxx'.out] at j0
              simp only at j0
              clear hAz
              have kk0 := Lib.hid k0; have kk1 := Lib.hid k1; have kk2 := Lib.hid k2
              clear k0 k1 k2
              go_wp2_with fail
              obtain ⟨w3, hw3⟩ : ∃ zz, (wq.alloc (.cells #[I q, I (1 : Int), I (0 : Int), .bool false] 57)).drew = zz := ⟨_, rfl⟩
              have hSy := hSy.out; have hoy := hoy.out; have hyv := hyv.out; have k0 := kk0.out; have k1 := kk1.out; have k2 := kk2.out
              rw [hw3] at hSy hoy hyv k0 k1 k2 hsy
              rw [hy] at hyv hoby hsy hqz
              have hcb : w3.cell? ⟨cs, b, none⟩ = some (ptr (pp b)) := by
                rw [cell_at hSy.hcs]
                have hb3 : b = 0 ∨ b = 1 ∨ b = 2 := by omega
                rcases hb3 with rfl | rfl | rfl <;> rfl
              have hpb := P.o2 b (by omega)
              have AD := Lib.hid (admits_any w3 pL (pp b) L W S r.side.lim (r.side.cl b) t hSy.hL (hSy.hC b (by omega)) (by omega) hb.out t0 (by omega) hSB.1 hSB.2.1 (hSB.2.2 b).1 (hSB.2.2 b).2)
              refine wp_region_still_tail 14 (by kernel_rfl) (by kernel_rfl) ?_
              simp only [List.take_succ_cons, List.take_zero, List.drop_succ_cons, List.drop_zero]
              change wpStill _ _ (wq.alloc (.cells #[I q, I (1 : Int), I (0 : Int), .bool false] 57)).drew (fun a' => wpList _ _ _ _ a' (wq.alloc (.cells #[I q, I (1 : Int), I (0 : Int), .bool false] 57)).drew) _ _
              rw [hw3]
              clear hw3
              repeat still_step
              try refine wpStill_nil ?_
              go_wp2_with fail
              refine AD.out.mono ?_
              rintro e w5 ⟨rfl, hl5, hc5, ht5⟩
              have hS5 := hSy.adm P (show b < 3 by omega) hl5 hc5 ht5
              have ho5 := ht5.own hoy (fun p hp => by have := P.o3; omega)
              have hy5 := ht5.var hyv (by have := P.o3; omega)
              have hside : (sideStep L W S r.side (0, t, (b : Int))).1 = ⟨(admit L W S r.side.lim (r.side.cl b) t).1, upd r.side.cl b (admit L W S r.side.lim (r.side.cl b) t).2.1⟩ := by simp [sideStep]
              have hsad : (sideStep L W S r.side (0, t, (b : Int))).2 = (admit L W S r.side.lim (r.side.cl b) t).2.2 := by simp [sideStep]
              rw [hsad] at so1 so3
              rw [hside] at so2
              clear hl5 hc5 ht5 hSy hoy hyv AD k0 k1 k2 hcb c0 c1 c2 c3 cf
              obtain ⟨is, his⟩ : ∃ zz, (admit L W S r.side.lim (r.side.cl b) t).2.2 = zz := ⟨_, rfl⟩
              rw [his] at so1 so3 ⊢
              clear his
              obtain ⟨sd, hsd⟩ : ∃ zz, (⟨(admit L W S r.side.lim (r.side.cl b) t).1, upd r.side.cl b (admit L W S r.side.lim (r.side.cl b) t).2.1⟩ : Side) = zz := ⟨_, rfl⟩
              rw [hsd] at hS5 so2
              have hsdB : SB L sd := by rw [← so2, step_side]; exact hSB.step hb.out _
              clear hsd hside hsad
              cases is with
              | true =>
                obtain ⟨_, _, y2, _⟩ := y_cells hy5
                have fy := free_at hy5 2
                have hy6 := set_at 2 (I (1 : Int)) hy5
                simp only [List.setIfInBounds_toArray, List.set_cons_zero, List.set_cons_succ] at hy6
                have g6 := gby_set w5 y 2 (I (1 : Int))
                have ho6 := ho5.kept g6 (Or.inr (by simp [Value.ownBlock]; omega))
                have hS6 := hS5.tch P (Tch.gby g6 (by omega))
                obtain ⟨e0, e1, e2, e3⟩ := y_cells hy6
                obtain ⟨c0, c1, c2, c3, cf⟩ := last_cells ho6 hlen
                simp only [Nat.zero_mul, Nat.zero_add] at c0 c1 c2 c3
                obtain ⟨ho7, g7⟩ := last_set (q, (1 : Int), (1 : Int), false) ho6 hlen
                have hS7 := hS6.tch P (Tch.gby g7 hobb)
                simp only [Nat.zero_mul, Nat.zero_add] at ho7 hS7
                replace ho7 := Lib.hid ho7; replace hS7 := Lib.hid hS7
                have hney : ob' ≠ y := by omega
                clear ho6 hS6 hy6 g7
                go_wp2_with fail
                go_roundw
                case rel =>
                  have hU : winStep (q, (0 : Int), (0 : Int), false) (0, t, (b : Int)) true = (q, (1 : Int), (1 : Int), false) := by simp [winStep]
                  rw [hU] at so1 so3
                  have hz7 := (ho7.out.lt ob' rfl).2
                  refine ⟨k + 1, runStep L W S r (0, t, (b : Int)), by omega, by go_num, hrn.out.symm, by rw [so2]; exact hsdB, by rw [so2]; exact hS7.out, Nat.le_trans hobb (Nat.le_of_lt hz7), (fun h => by rw [so3] at h; exact absurd h (by simp)), (by rw [so1, List.length_append, hlen]; simp only [List.length_cons, List.length_nil]; omega), (fun v hv => by rw [so3] at hv; obtain rfl := Option.some.inj hv; simp only; omega), (by rw [so1, List.length_append, hlen]; exact ho7.out)⟩
                case measure => simp [intOf] <;> omega
              | false =>
                have hy6 := hy5
                have ho6 := ho5
                have hS6 := hS5
                obtain ⟨e0, e1, e2, e3⟩ := y_cells hy6
                obtain ⟨c0, c1, c2, c3, cf⟩ := last_cells ho6 hlen
                simp only [Nat.zero_mul, Nat.zero_add] at c0 c1 c2 c3
                obtain ⟨ho7, g7⟩ := last_set (q, (1 : Int), (0 : Int), false) ho6 hlen
                have hS7 := hS6.tch P (Tch.gby g7 hobb)
                simp only [Nat.zero_mul, Nat.zero_add] at ho7 hS7
                replace ho7 := Lib.hid ho7; replace hS7 := Lib.hid hS7
                have hney : ob' ≠ y := by omega
                clear ho6 hS6 hy6 g7
                go_wp2_with fail
                go_roundw
                case rel =>
                  have hU : winStep (q, (0 : Int), (0 : Int), false) (0, t, (b : Int)) false = (q, (1 : Int), (0 : Int), false) := by simp [winStep]
                  rw [hU] at so1 so3
                  have hz7 := (ho7.out.lt ob' rfl).2
                  refine ⟨k + 1, runStep L W S r (0, t, (b : Int)), by omega, by go_num, hrn.out.symm, by rw [so2]; exact hsdB, by rw [so2]; exact hS7.out, Nat.le_trans hobb (Nat.le_of_lt hz7), (fun h => by rw [so3] at h; exact absurd h (by simp)), (by rw [so1, List.length_append, hlen]; simp only [List.length_cons, List.length_nil]; omega), (fun v hv => by rw [so3] at hv; obtain rfl := Option.some.inj hv; simp only; omega), (by rw [so1, List.length_append, hlen]; exact ho7.out)⟩
                case measure => simp [intOf] <;> omega
            · have hyv := heap_alloc_new wq (.cells #[I q, I (0 : Int), I (0 : Int), .bool false] 57)
              have hSy := hSq.out.step ((Bl.rfl' wq).al (.cells #[I q, I (0 : Int), I (0 : Int), .bool false] 57))
              have hoy := own_below hownq.out ((Bl.rfl' wq).al (.cells #[I q, I (0 : Int), I (0 : Int), .bool false] 57))
              have FL := Lib.hid (forget_any _ pL L W S _ _ t hSy.hL hb.out t0 (by omega))
              have hAy := hA.out.bl hSy.bl
              have hAq := hA.out.bl hSq.out.bl
              obtain ⟨_, k0, k1, _⟩ := hAy.c k (by rw [hN.out]; exact hlt)
              obtain ⟨_, j0, j1, _⟩ := hAq.c k (by rw [hN.out]; exact hlt)
              rw [hxx'.out] at k0 k1 j0 j1
              simp only at k0 k1 j0 j1
              have hsy : wq.heap.size < (wq.alloc (.cells #[I q, I (0 : Int), I (0 : Int), .bool false] 57)).heap.size := lt_of_block hyv
              replace hSy := Lib.hid hSy; replace hoy := Lib.hid hoy; replace hyv := Lib.hid hyv
              clear hAy hAq
              go_wp2_with fail
              refine FL.out.mono ?_
              rintro e w5 ⟨rfl, hl5, hg5⟩
              have hS5 := hSy.out.lim P hl5 hg5
              have ho5 := hoy.out.kept hg5 (own_ne hoy.out hpLb)
              have hy5 := var_gby hyv.out hg5 (by omega)
              obtain ⟨y, hy⟩ : ∃ zz, wq.heap.size = zz := ⟨_, rfl⟩
              rw [hy] at hy5 hoby hsy hqz ⊢
              have hside : (sideStep L W S r.side (2, t, (b : Int))).1 = ⟨(t / W, L), r.side.cl⟩ := by simp [sideStep]
              have hsad : (sideStep L W S r.side (2, t, (b : Int))).2 = false := by simp [sideStep]
              rw [hsad] at so1 so3
              rw [hside] at so2
              clear hl5 hg5 hSy hoy hyv FL k0 k1 j0 j1 c0 c1 c2 c3 cf
              obtain ⟨sd, hsd⟩ : ∃ zz, (⟨(t / W, L), r.side.cl⟩ : Side) = zz := ⟨_, rfl⟩
              rw [hsd] at hS5 so2
              have hsdB : SB L sd := by rw [← so2, step_side]; exact hSB.step hb.out _
              clear hsd hside hsad
              obtain ⟨_, _, _, y3⟩ := y_cells hy5
              have fy := free_at hy5 3
              have hy6 := set_at 3 (.bool true) hy5
              simp only [List.setIfInBounds_toArray, List.set_cons_zero, List.set_cons_succ] at hy6
              have g6 := gby_set w5 y 3 (.bool true)
              have ho6 := ho5.kept g6 (Or.inr (by simp [Value.ownBlock]; omega))
              have hS6 := hS5.tch P (Tch.gby g6 (by omega))
              obtain ⟨e0, e1, e2, e3⟩ := y_cells hy6
              obtain ⟨c0, c1, c2, c3, cf⟩ := last_cells ho6 hlen
              simp only [Nat.zero_mul, Nat.zero_add] at c0 c1 c2 c3
              obtain ⟨ho7, g7⟩ := last_set (q, (0 : Int), (0 : Int), true) ho6 hlen
              have hS7 := hS6.tch P (Tch.gby g7 hobb)
              simp only [Nat.zero_mul, Nat.zero_add] at ho7 hS7
              replace ho7 := Lib.hid ho7; replace hS7 := Lib.hid hS7
              have hney : ob' ≠ y := by omega
              clear ho6 hS6 hy6 g7
              go_wp2_with fail
              go_roundw
              case rel =>
                have hU : winStep (q, (0 : Int), (0 : Int), false) (2, t, (b : Int)) false = (q, (0 : Int), (0 : Int), true) := by simp [winStep]
                rw [hU] at so1 so3
                have hz7 := (ho7.out.lt ob' rfl).2
                refine ⟨k + 1, runStep L W S r (2, t, (b : Int)), by omega, by go_num, hrn.out.symm, by rw [so2]; exact hsdB, by rw [so2]; exact hS7.out, Nat.le_trans hobb (Nat.le_of_lt hz7), (fun h => by rw [so3] at h; exact absurd h (by simp)), (by rw [so1, List.length_append, hlen]; simp only [List.length_cons, List.length_nil]; omega), (fun v hv => by rw [so3] at hv; obtain rfl := Option.some.inj hv; simp only; omega), (by rw [so1, List.length_append, hlen]; exact ho7.out)⟩
              case measure => simp [intOf] <;> omega
      · obtain rfl : k = N := by omega
        go_wp2_with fail
        go_ret
        have ht : A.take k = A := by rw [← hN.out, List.take_length]
        rw [ht] at hr
        refine ⟨_, b0, rfl, hwb, ?_, hS.bl⟩
        unfold winds
        rw [← hr]
        exact hown
end Go.Proofs.Ytifmoekgnbgnmaa.lease
