/-
  Package dedup: forget.
-/
import Derived.Test.YtfpapfnpppggeaaDdA
namespace Go.Proofs.Ytfpapfnpppggeaa.dedup
open Go.ChangeShapes Go.WideShapes Go.ChangeAt Go.RowKit
set_option linter.unusedVariables false
set_option linter.unusedSimpArgs false

/-- What is left behind a tick. -/
def leftR (h now : Int) (R : List En) : List En := R.dropWhile (fun e => decide (e.a + h ≤ now))
/-- How many are let go. -/
def goneN (h now : Int) (R : List En) : Nat := (R.takeWhile (fun e => decide (e.a + h ≤ now))).length
theorem goneN_le (h now : Int) (R : List En) : goneN h now R ≤ R.length := by
  unfold goneN; exact List.Sublist.length_le (List.takeWhile_sublist _)
theorem drop_gone (h now : Int) (R : List En) : R.drop (goneN h now R) = leftR h now R := by
  unfold goneN leftR
  induction R with
  | nil => rfl
  | cons e R ih =>
    simp only [List.takeWhile_cons, List.dropWhile_cons]
    split
    · simp only [List.length_cons, List.drop_succ_cons]; exact ih
    · rfl
theorem gone_lt (h now : Int) (R : List En) (i : Nat) (hi : i < goneN h now R) : (R.getD i e0).a + h ≤ now := by
  unfold goneN at hi
  induction R generalizing i with
  | nil => simp at hi
  | cons e R ih =>
    simp only [List.takeWhile_cons] at hi
    split at hi
    · rename_i hd
      cases i with
      | zero => simpa using hd
      | succ i => rw [List.getD_cons_succ]; exact ih i (by simpa using hi)
    · simp at hi
theorem gone_at (h now : Int) (R : List En) (hi : goneN h now R < R.length) : ¬ (R.getD (goneN h now R) e0).a + h ≤ now := by
  unfold goneN at hi ⊢
  induction R with
  | nil => simp at hi
  | cons e R ih =>
    simp only [List.takeWhile_cons] at hi ⊢
    split at hi
    · rename_i hd
      rw [if_pos hd, List.length_cons, List.getD_cons_succ]
      exact ih (by simpa using hi)
    · rename_i hd
      rw [if_neg hd]
      simpa using hd



theorem zeroE (w : World) : (zeroValue 53).run Try.prog w = .ok (.agg #[I 0, sV ⟨#[]⟩]) w := by rfl
theorem clear0 (w : World) (ty : TypeId) (a : Option Addr) (c : Nat) : (Builtin.clear_ #[46] ty #[.slice a 0 c]).run Try.prog w = .ok (.tuple #[]) w := by
  cases a <;> simp [Builtin.clear_, run_underlying Try.underlying46, Result.andThen]
theorem zs_len (n : Nat) : (Builtin.zeroCells (Value.agg #[I 0, sV ⟨#[]⟩]).cells n).toList.length = n * 2 := by
  rw [Array.length_toList, size_zeroCells]; rfl
theorem zs_one (n : Nat) : ∀ v ∈ (Builtin.zeroCells (Value.agg #[I 0, sV ⟨#[]⟩]).cells n).toList, v.oneCell' = true := by
  intro v hv
  simp only [Builtin.zeroCells, Array.toList_map, List.mem_map] at hv
  obtain ⟨i, -, rfl⟩ := hv
  have : i % 2 = 0 ∨ i % 2 = 1 := by omega
  show ((#[I 0, sV ⟨#[]⟩] : Array Value)[i % 2]!).oneCell' = true
  rcases this with h | h <;> (rw [h]; rfl)
theorem fin_tb {ks : Nat → Prop} {W : World} {p mr : Nat} {h : Int} {v0 v' : Value} {R' : List En} (hp : W.heap[p]? = some (.cells #[I h, .map (some mr), v0] 48 (0, 0))) (hm : MpK sV W mr (FV R') (cntK R')) (hv : OffB eB 2 53 W v' R') (k4 : ks p) (k5 : ks mr) (k6 : ∀ k, v'.ownBlock = some k → ks k) :
    TB ks (W.setCell ⟨p, 2, none⟩ v') p h R' ∧ W.grownBy (W.setCell ⟨p, 2, none⟩ v') (some p) := by
  have g := gby_set W p 2 v'
  have h2 := set_at 2 v' hp
  simp only [List.setIfInBounds_toArray, List.set_cons_zero, List.set_cons_succ] at h2
  exact ⟨⟨v', mr, h2, hv.row g (Or.inr (hv.apart hp (by decide))), hm.row g (fun e => hm.ne hp (by cases e; rfl)), k4, k5, k6⟩, g⟩

set_option maxHeartbeats 8000000 in
set_option maxRecDepth 20000 in
theorem forget_body {ks : Nat → Prop} {w : World} {p : Nat} {h : Int} {R : List En} (t : TB ks w p h R) (hi : InvR h R) (hR : R.length ≤ 1000000) (h0 : 1 ≤ h) (h1 : h ≤ 1000000) (now : Int) :
    ∃ c, Try.f23.body = some c ∧ c.wp Try.prog (bodyPost Try.prog Try.f23 (fun e w' => e = .returned (.tuple #[]) ∧ TB ks w' p h (leftR h now R) ∧ Tch ks w w')) { tmps := #[ptr p, I now] ++ Array.replicate (Try.f23.ntmps - (#[ptr p, I now] : Array Value).size) undef, defers := [] } w := by
  obtain ⟨v, mr, hp, hv, hm, k4, k5, k6⟩ := t
  have hmp := hm.ne hp
  obtain ⟨a, g, o, cap, rfl, c1, c2, hrow, hob⟩ := hv.read
  have c1' := cell_at hp 2
  have c0' := cell_at hp 0
  have cm' := cell_at hp 1
  simp only [List.getElem?_toArray, List.getElem?_cons_succ, List.getElem?_cons_zero] at c1' c0' cm'
  have hG := goneN_le h now R
  have hlt := gone_lt h now R
  have hat := gone_at h now R
  have hdr := drop_gone h now R
  obtain ⟨G, hGe⟩ : ∃ G, goneN h now R = G := ⟨_, rfl⟩
  rw [hGe] at hG hlt hat hdr
  obtain ⟨L, hL⟩ : ∃ L, R.length = L := ⟨_, rfl⟩
  rw [hL] at c1 hG hat c1' hp hR
  replace hp := Lib.hid hp
  replace hv := Lib.hid hv
  replace hm := Lib.hid hm
  replace hrow := Lib.hid hrow
  replace hlt := Lib.hid hlt
  replace hat := Lib.hid hat
  replace hdr := Lib.hid hdr
  replace hL := Lib.hid hL
  replace hi := Lib.hid hi
  refine ⟨_, rfl, ?_⟩
  simp only [Try.ntmps23, List.size_toArray, List.length_cons, List.length_nil, Nat.reduceAdd, Nat.reduceSub, Array.replicate_succ, Array.replicate_zero, List.push_toArray, List.append_toArray, List.nil_append, List.cons_append]
  go_wp2_with fail
  go_loopw [4] (fun n wr => ∃ k : Nat, k ≤ G ∧ n = I k ∧ wr.heap[p]? = some (.cells #[I h, .map (some mr), .slice a L cap] 48 (0, 0)) ∧ RowB eB 2 wr g o a R ∧ MpK sV wr mr (FV (R.drop k)) (cntK (R.drop k)) ∧ Tch (fun k => k = mr) w wr) (fun n _ => G - (intOf n).toNat)
  case atStart => exact ⟨0, by omega, rfl, hp.out, hrow.out, by simpa using hm.out, Tch.rfl' _ _⟩
  case round =>
    obtain ⟨k, hk, rfl, hpr, hrr, hmr, hT⟩ := hrel
    have c1' := cell_at hpr 2
    have c0' := cell_at hpr 0
    have cm' := cell_at hpr 1
    simp only [List.getElem?_toArray, List.getElem?_cons_succ, List.getElem?_cons_zero] at c1' c0' cm'
    by_cases hkG : k < G
    · have hkL : k < L := by omega
      obtain ⟨rfl, hc⟩ := hrr.c eB_len e0 k (by rw [hL.out]; exact hkL)
      have q0 := hc 0 (by decide); have q1 := hc 1 (by decide)
      have hx1 := hlt.out k hkG
      have hd : R.drop k = R.getD k e0 :: R.drop (k + 1) := by
        rw [List.drop_eq_getElem_cons (by rw [hL.out]; exact hkL), List.getD_eq_getElem?_getD, List.getElem?_eq_getElem (by rw [hL.out]; exact hkL)]; rfl
      have hbnd := hi.out.2 _ (getD_mem R k e0 (by rw [hL.out]; exact hkL))
      have hpw := List.Pairwise.sublist (List.drop_sublist k R) hi.out.1
      rw [hd] at hpw hmr
      obtain ⟨x, hx⟩ : ∃ z, R.getD k e0 = z := ⟨_, rfl⟩
      rw [hx] at q0 q1 hx1 hmr hbnd hpw
      obtain ⟨xa, xk⟩ := x
      have hx3 := hx
      replace hx3 := Lib.hid hx3
      simp only [Nat.add_zero, List.getElem?_cons_zero, List.getElem?_cons_succ] at q0 q1 hx1 hbnd
      have b1 : decide (now ≥ xa + h) = true := decide_eq_true (by omega)
      have e1 : IntKind.i64.wrap (xa + h) = xa + h := by rw [IntKind.wrap_i64]; omega
      have b2 : decide ((k : Int) < (L : Int)) = true := decide_eq_true (by omega)
      rw [← Nat.add_assoc] at q1
      clear hc hx hd hv hp hm hrow
      go_wp2_with fail
      go_quiet (fail)
      have hbq := Bl.drewN wr nq
      obtain ⟨wq, hwq⟩ : ∃ z, wr.drewN nq = z := ⟨_, rfl⟩
      rw [hwq] at hbq ⊢
      replace hpr := blk_bl hpr hbq
      replace hrr := hrr.bl hbq
      replace hmr := hmr.bl hbq
      replace hT := hT.tr (Tch.bl hbq)
      have c1' := cell_at hpr 2
      simp only [List.getElem?_toArray, List.getElem?_cons_succ, List.getElem?_cons_zero] at c1'
      have hc := (hrr.c eB_len e0 k (by rw [hL.out]; exact hkL)).2
      have q0 := hc 0 (by decide); have q1 := hc 1 (by decide)
      rw [hx3.out] at q0 q1
      simp only [Nat.add_zero, List.getElem?_cons_zero, List.getElem?_cons_succ] at q0 q1
      rw [← Nat.add_assoc] at q1
      clear hwq hbq hc
      have hbC := (Bl.rfl' wq).al (.cells #[I xa, sV xk] 53)
      obtain ⟨C, hC⟩ : ∃ C, wq.alloc (.cells #[I xa, sV xk] 53) = C := ⟨_, rfl⟩
      have hY := heap_alloc_new wq (.cells #[I xa, sV xk] 53)
      rw [hC] at hbC hY
      obtain ⟨y, hy⟩ : ∃ y, wq.heap.size = y := ⟨_, rfl⟩
      rw [hy] at hY
      have hC' : wq.alloc (.cells #[Value.int .i64 xa, Value.string xk] 53) = C := hC
      have y0 := cell_at hY 0; have y1 := cell_at hY 1
      simp only [List.getElem?_toArray, List.getElem?_cons_succ, List.getElem?_cons_zero] at y0 y1
      have hpC := blk_bl hpr hbC
      have p0 := cell_at hpC 1
      simp only [List.getElem?_toArray, List.getElem?_cons_succ, List.getElem?_cons_zero] at p0
      have hrC := hrr.bl hbC
      have hmC := hmr.bl hbC
      have hTC := hT.tr (Tch.bl hbC)
      have LK := fun m => ((hmC.bl (Bl.drewN C m)).run_look strKey Try.underlying45 Try.underlying9 (zeroI (C.drewN m)) xk).1
      clear hC hpr hrr hmr hT hbC
      cases hl : lastF (R.drop (k + 1)) xk with
      | some b =>
        obtain ⟨z, hz, hzk, hza⟩ := lastF_mem _ _ _ hl
        have hpz := (List.pairwise_cons.1 hpw).1 z hz
        simp only at hpz
        have hne : (b == xa) = false := beq_eq_false_iff_ne.2 (by have := hpz.2 hzk.symm; omega)
        obtain ⟨F1, F2⟩ := FV_again (e := ⟨xa, xk⟩) hl
        have hget : (FV (⟨xa, xk⟩ :: R.drop (k + 1)) xk).getD (I 0) = I b := by rw [F1]; unfold FV; rw [hl]; rfl
        simp only [hget] at LK
        rw [F1, F2] at hmC
        replace hpC := Lib.hid hpC
        replace hrC := Lib.hid hrC
        replace hmC := Lib.hid hmC
        replace hTC := Lib.hid hTC
        replace hY := Lib.hid hY
        replace hx1 := Lib.hid hx1
        replace hpw := Lib.hid hpw
        replace hl := Lib.hid hl
        clear hget F1 F2 hz hzk hza hpz
        go_wp2_with fail
        go_quiet (fail)
        go_wp2_with fail
        go_roundw
        case measure => simp [intOf] <;> omega
        case rel => exact ⟨k + 1, by omega, by go_num, blk_bl hpC.out (Bl.drewN _ _), hrC.out.bl (Bl.drewN _ _), hmC.out.bl (Bl.drewN _ _), hTC.out.tr (Tch.bl (Bl.drewN _ _))⟩
      | none =>
        obtain ⟨F1, F2, F3⟩ := FV_gone (e := ⟨xa, xk⟩) hl
        have hget : (FV (⟨xa, xk⟩ :: R.drop (k + 1)) xk).getD (I 0) = I xa := by rw [F3]; rfl
        simp only [hget] at LK
        replace hpC := Lib.hid hpC
        replace hrC := Lib.hid hrC
        replace hTC := Lib.hid hTC
        replace hY := Lib.hid hY
        replace hx1 := Lib.hid hx1
        replace hpw := Lib.hid hpw
        replace hl := Lib.hid hl
        replace hmC := Lib.hid hmC
        replace F1 := Lib.hid F1
        replace F2 := Lib.hid F2
        replace F3 := Lib.hid F3
        clear hget
        go_wp2_with fail
        go_quiet (fail)
        go_wp2_with fail
        have hbD := (Bl.drewN C nq).dr
        have hpD := blk_bl hpC.out hbD
        have hYD := blk_bl hY.out hbD
        have hmD := hmC.out.bl hbD
        have hrD := hrC.out.bl hbD
        have hTD := hTC.out.tr (Tch.bl hbD)
        obtain ⟨D, hD⟩ : ∃ z, (C.drewN nq).drew = z := ⟨_, rfl⟩
        rw [hD] at hpD hYD hmD hrD hTD
        obtain ⟨w7, hdel, hm7, hg7, hs7⟩ := hmD.run_del strKey Try.underlying45 Try.underlying9 xk 9 0
        rw [← F1.out] at hm7
        simp only [F3.out, Option.isSome_some, if_true] at hm7
        rw [← F2.out] at hm7
        have hp7 := blk_gby hpD hg7 (fun e => hmp e.symm)
        have hY7 := blk_gby hYD hg7 (fun e => hmD.ne hYD e.symm)
        have hT7 := hTD.tr (Tch.gby (ps := fun k => k = mr) hg7 rfl)
        have hr7 := hrD.kept (w' := w7) (fun o ho => blk_gby ho hg7 (fun e => by
          obtain ⟨-, cur, T, hcur, -⟩ := hrD (by rw [hL.out]; omega)
          exact hmD.ne hcur e.symm))
        have sD : D.cell? ⟨p, 1, none⟩ = some (.map (some mr)) ∧ D.cell? ⟨y, 1, none⟩ = some (sV xk) := ⟨by rw [cell_at hpD]; rfl, by rw [cell_at hYD]; rfl⟩
        have s7 : w7.cell? ⟨p, 1, none⟩ = some (.map (some mr)) ∧ w7.cell? ⟨y, 1, none⟩ = some (sV xk) := ⟨by rw [cell_at hp7]; rfl, by rw [cell_at hY7]; rfl⟩
        replace hp7 := Lib.hid hp7
        replace hm7 := Lib.hid hm7
        replace hT7 := Lib.hid hT7
        replace hr7 := Lib.hid hr7
        replace sD := Lib.hid sD
        replace s7 := Lib.hid s7
        replace hdel := Lib.hid hdel
        clear hpC hY hmC hrC hTC hpD hYD hmD hrD hTD hg7 hY7 y0 y1 p0 LK hbD
        refine wp_region_held_drew (S := fun w' => w'.cell? ⟨p, 1, none⟩ = some (.map (some mr)) ∧ w'.cell? ⟨y, 1, none⟩ = some (sV xk)) (by kernel_rfl) ?_ (fun hHeld => ?_)
        · exact (by rw [hD]; exact sD.out)
        refine wpAnyH_take (i := 0) (v := ?v0_1) rfl (by kernel_rfl) (by kernel_rfl) (by kernel_rfl) (fun _ _ _ h => h) (Or.inl ⟨by rfl, ?y0_1⟩) hHeld ?r0_1
        case y0_1 => (intro w hSw; (try dsimp only at hSw); go_split_ands; go_simp; try with_reducible rfl)
        try simp only [List.getElem_toArray, List.getElem_cons_succ, List.getElem_cons_zero, Act.put, List.setIfInBounds_toArray, List.set_cons_zero, List.set_cons_succ]
        refine wpAnyH_take (i := 1) (v := ?v1_2) rfl (by kernel_rfl) (by kernel_rfl) (by kernel_rfl) (fun _ _ _ h => h) (Or.inl ⟨by rfl, ?y1_2⟩) hHeld ?r1_2
        case y1_2 => (intro w hSw; (try dsimp only at hSw); go_split_ands; go_simp; try with_reducible rfl)
        try simp only [List.getElem_toArray, List.getElem_cons_succ, List.getElem_cons_zero, Act.put, List.setIfInBounds_toArray, List.set_cons_zero, List.set_cons_succ]
        refine wpAnyH_take (i := 2) (v := ?v2_3) rfl (by kernel_rfl) (by kernel_rfl) (by kernel_rfl) (fun _ _ _ h => h) (Or.inl ⟨by rfl, ?y2_3⟩) hHeld ?r2_3
        case y2_3 => (intro w hSw; (try dsimp only at hSw); go_split_ands; go_simp; try with_reducible rfl)
        try simp only [List.getElem_toArray, List.getElem_cons_succ, List.getElem_cons_zero, Act.put, List.setIfInBounds_toArray, List.set_cons_zero, List.set_cons_succ]
        refine wpAnyH_take (i := 3) (v := ?v3_4) rfl (by kernel_rfl) (by kernel_rfl) (by kernel_rfl) (fun _ _ _ h => h) (Or.inl ⟨by rfl, ?y3_4⟩) hHeld ?r3_4
        case y3_4 => (intro w hSw; (try dsimp only at hSw); go_split_ands; go_simp; try with_reducible rfl)
        try simp only [List.getElem_toArray, List.getElem_cons_succ, List.getElem_cons_zero, Act.put, List.setIfInBounds_toArray, List.set_cons_zero, List.set_cons_succ]
        refine wpAnyH_take (i := 4) (v := ?v4_5) rfl (by kernel_rfl) (by kernel_rfl) (by kernel_rfl) (fun _ _ _ h => h) (Or.inl ⟨by rfl, ?y4_5⟩) hHeld ?r4_5
        case y4_5 => (intro w hSw; (try dsimp only at hSw); go_split_ands; go_simp; try with_reducible rfl)
        try simp only [List.getElem_toArray, List.getElem_cons_succ, List.getElem_cons_zero, Act.put, List.setIfInBounds_toArray, List.set_cons_zero, List.set_cons_succ]
        refine wpAnyH_take (i := 5) (v := ?v5_6) rfl (by kernel_rfl) (by kernel_rfl) (by kernel_rfl) (fun _ _ _ h => h) (Or.inl ⟨by rfl, ?y5_6⟩) hHeld ?r5_6
        case y5_6 => (intro w hSw; (try dsimp only at hSw); go_split_ands; go_simp; try with_reducible rfl)
        try simp only [List.getElem_toArray, List.getElem_cons_succ, List.getElem_cons_zero, Act.put, List.setIfInBounds_toArray, List.set_cons_zero, List.set_cons_succ]
        have hdel := hdel.out
        refine wpAnyH_ready (rs := [6]) (by kernel_rfl) (by simp) ?_
        refine AllReadyH.cons rfl (fun K hK => ?_) AllReadyH.nil
        have hHeld' := hHeld
        try dsimp only at hHeld'
        go_split_ands
        go_simp
        refine hK.out _ _ ?_ (fun hHeld => ?_)
        · exact s7.out
        clear hK K
        try simp only [List.getElem_toArray, List.getElem_cons_succ, List.getElem_cons_zero, Act.put, List.setIfInBounds_toArray, List.set_cons_zero, List.set_cons_succ]
        refine wpAnyH_done (by kernel_rfl) ?_ _
        clear hdel
        go_wp2_with fail
        go_roundw
        case measure => simp [intOf] <;> omega
        case rel => exact ⟨k + 1, by omega, by go_num, hp7.out, hr7.out, hm7.out, hT7.out⟩
    · obtain rfl : G = k := by omega
      have hvw := hv.out
      have hd := hdr.out
      have gc : G = L ∨ G < L := by omega
      replace hpr := Lib.hid hpr
      replace hrr := Lib.hid hrr
      replace hmr := Lib.hid hmr
      replace hT := Lib.hid hT
      rcases hvw with ⟨hv0, hR0⟩ | ⟨g', o', cap', cur, hv1, hg1, e1, e2, e3, e4⟩
      · rw [hL.out] at hv0
        subst hR0
        simp only [Value.slice.injEq] at hv0
        obtain ⟨rfl, rfl, rfl⟩ := hv0
        obtain rfl : G = 0 := by omega
        have hp2 := fun m => blk_bl hpr.out (Bl.drewN wr m)
        have hcl := clear0
        have hmq := fun m => hmr.out.bl (Bl.drewN wr m)
        simp only [List.drop_nil] at hmq hd
        clear hv hp hm hrow hlt hat hdr hi
        go_wp2_with fail
        go_quiet (fail)
        have c2' := cell_at (hp2 nq) 2
        have f2' := free_at (hp2 nq) 2
        simp only [List.getElem?_toArray, List.getElem?_cons_succ, List.getElem?_cons_zero] at c2'
        obtain ⟨fin, gfin⟩ := fin_tb (ks := ks) (v' := .slice none 0 0) (hp2 nq) (hmq nq) (OffB.nil _) k4 k5 (by simp [Value.ownBlock])
        have hTf := ((hT.out.mono (qs := ks) (fun k hk => by rw [hk]; exact k5)).tr (Tch.bl (Bl.drewN wr nq))).tr (Tch.gby gfin k4)
        replace fin := Lib.hid fin
        replace hTf := Lib.hid hTf
        clear gfin hmq
        go_wp2_with fail
        refine bodyPost_end (results_none rfl _ _ _) rfl ?_
        exact ⟨rfl, by rw [← hd]; exact fin.out, hTf.out⟩
      · rw [hL.out] at hv1 e1
        simp only [Value.slice.injEq, true_and] at hv1
        obtain ⟨rfl, rfl⟩ := hv1
        have k6' : ks g' := k6 g' rfl
        have hgm : g' ≠ mr := fun e => hm.out.ne hg1 e.symm
        have hgr := hT.out.var hg1 hgm
        have hgp : g' ≠ p := by
          rintro rfl
          rw [hp.out] at hg1
          simp at hg1
        have hpq := fun m => blk_bl hpr.out (Bl.drewN wr m)
        have hgq := fun m => blk_bl hgr (Bl.drewN wr m)
        have hmq := fun m => hmr.out.bl (Bl.drewN wr m)
        rw [hd] at hmq
        have hTk : Tch ks w wr := hT.out.mono (fun k hk => by rw [hk]; exact k5)
        have hLc := fun (W : World) (hW : W.heap[g']? = some (.cells cur 53 (0, 0))) zs hz => OffB.cleared (enc := eB) (sz := 2) (w := W) eB_len hW (by rw [hL.out]; exact e1) e2 e3 e4 G (by rw [hL.out]; exact hG) zs hz
        simp only [hd, hL.out] at hLc
        have hget : G < L → (RowB eB 2 wr g o (some ⟨g', o', none⟩) R) := fun _ => hrr.out
        rcases gc with rfl | gL
        · have c3' : decide ((G : Int) < (G : Int)) = false := by simp
          replace hpq := Lib.hid hpq
          replace hgq := Lib.hid hgq
          replace hmq := Lib.hid hmq
          replace hTk := Lib.hid hTk
          replace hLc := Lib.hid hLc
          clear hv hp hm hrow hlt hat hdr hi hpr hrr hmr hT hget
          go_wp2_with fail
          go_quiet (fail)
          have hP := hpq.out nq
          have c2' := cell_at hP 2
          have f2' := free_at hP 2
          simp only [List.getElem?_toArray, List.getElem?_cons_succ, List.getElem?_cons_zero] at c2'
          rcases Nat.eq_zero_or_pos G with hG0 | hG0
          · have hcl := clear0
            have hO := hLc.out _ (hgq.out nq) [] (by rw [hG0]; rfl)
            subst hG0
            simp only [Nat.zero_mul, Nat.add_zero, Nat.sub_zero] at hO
            have hO : OffB eB 2 53 (wr.drewN nq) _ _ := hO
            obtain ⟨fin, gfin⟩ := fin_tb (ks := ks) hP (hmq.out nq) hO k4 k5 (fun k hk => by simp only [Value.ownBlock, Option.some.injEq] at hk; subst hk; exact k6')
            have hTf := (hTk.out.tr (Tch.bl (Bl.drewN wr nq))).tr (Tch.gby gfin k4)
            replace fin := Lib.hid fin
            replace hTf := Lib.hid hTf
            clear gfin hO
            go_wp2_with fail
            refine bodyPost_end (results_none rfl _ _ _) rfl ?_
            exact ⟨rfl, fin.out, hTf.out⟩
          · have hO := hLc.out _ (hgq.out nq) _ (zs_len G)
            have hks : G * 2 ≤ cap * 2 := by omega
            have hcl := run_clear (P := Try.prog) (w := wr.drewN nq) (t := 46) (ty := 0) (g := g') (o := o') (cap := cap) Try.underlying46 (zeroE (wr.drewN nq)) (show G ≠ 0 by omega)
              (fun j hj => by rw [zs_len] at hj; rw [cell_at (hgq.out nq), Array.getElem?_eq_getElem (by omega)]; rfl) (fun j => free_at (hgq.out nq) _) (zs_one G)
            have hgz := gby_setCells (wr.drewN nq) g' (Builtin.zeroCells (Value.agg #[I 0, sV ⟨#[]⟩]).cells G).toList o' (wr.drewN nq)
            obtain ⟨zs, hzs⟩ : ∃ z, (Builtin.zeroCells (Value.agg #[I 0, sV ⟨#[]⟩]).cells G).toList = z := ⟨_, rfl⟩
            rw [hzs] at hO hcl hgz
            obtain ⟨W, hW⟩ : ∃ z, (wr.drewN nq).setCells g' o' zs = z := ⟨_, rfl⟩
            rw [hW] at hO hcl hgz
            have hPW := blk_gby hP hgz hgp.symm
            have hmW := (hmq.out nq).row hgz (fun e => hgm (by cases e; rfl))
            have cW := cell_at hPW 2
            have fW := free_at hPW 2
            simp only [List.getElem?_toArray, List.getElem?_cons_succ, List.getElem?_cons_zero] at cW
            by_cases hcG : cap = G
            · have hO2 : OffB eB 2 53 W (.slice (some ⟨g', o', none⟩) 0 0) (leftR h now R) := by
                have hnil : leftR h now R = [] := by rw [← hd]; exact List.drop_eq_nil_of_le (by rw [hL.out]; omega)
                rw [hnil]
                rcases hO with ⟨ha, -⟩ | ⟨g5, o5, c5, u5, ha, hb, -⟩
                · cases ha
                · simp only [Value.slice.injEq, Option.some.injEq, Addr.mk.injEq] at ha
                  obtain ⟨⟨rfl, -, -⟩, -, -⟩ := ha
                  exact Or.inr ⟨g', o', 0, _, rfl, hb, Nat.le_refl _, by decide, by rw [← hW] at hb; have h7 := heap_setCells_at (w := w) zs o' _ _ (hgq.out nq); rw [h7] at hb; simp only [Option.some.injEq, Obj.cells.injEq, and_true] at hb; subst hb; rw [putL_size]; omega, fun j hj => by simp at hj⟩
              obtain ⟨fin, gfin⟩ := fin_tb (ks := ks) hPW hmW hO2 k4 k5 (fun k hk => by simp only [Value.ownBlock, Option.some.injEq] at hk; subst hk; exact k6')
              have hTf := ((hTk.out.tr (Tch.bl (Bl.drewN wr nq))).tr (Tch.gby hgz k6')).tr (Tch.gby gfin k4)
              subst hcG
              replace fin := Lib.hid fin
              replace hTf := Lib.hid hTf
              clear gfin hO hO2 hgz hzs hW hPW hmW hP
              go_wp2_with fail
              refine bodyPost_end (results_none rfl _ _ _) rfl ?_
              exact ⟨rfl, fin.out, hTf.out⟩
            · obtain ⟨fin, gfin⟩ := fin_tb (ks := ks) hPW hmW hO k4 k5 (fun k hk => by simp only [Value.ownBlock, Option.some.injEq] at hk; subst hk; exact k6')
              have hTf := ((hTk.out.tr (Tch.bl (Bl.drewN wr nq))).tr (Tch.gby hgz k6')).tr (Tch.gby gfin k4)
              have hcg2 : ¬ cap - G = 0 := by omega
              replace fin := Lib.hid fin
              replace hTf := Lib.hid hTf
              clear gfin hO hgz hzs hW hPW hmW hP
              go_wp2_with fail
              refine bodyPost_end (results_none rfl _ _ _) rfl ?_
              exact ⟨rfl, by have h9 := fin.out; simp only [Nat.sub_self] at h9; exact h9, by have h9 := hTf.out; simp only [Nat.sub_self] at h9; exact h9⟩
        · obtain ⟨hae, hc⟩ := hrr.out.c eB_len e0 G (by rw [hL.out]; exact gL)
          simp only [Option.some.injEq, Addr.mk.injEq, and_true] at hae
          obtain ⟨rfl, rfl⟩ := hae
          have q0 := hc 0 (by decide)
          have hn := hat.out gL
          have hbnd := hi.out.2 _ (getD_mem R G e0 (by rw [hL.out]; exact gL))
          obtain ⟨xa, hxa⟩ : ∃ z, (R.getD G e0).a = z := ⟨_, rfl⟩
          simp only [Nat.add_zero, List.getElem?_cons_zero] at q0
          rw [hxa] at q0 hn hbnd
          have e1' : IntKind.i64.wrap (xa + h) = xa + h := by rw [IntKind.wrap_i64]; omega
          have b1 : decide (now ≥ xa + h) = false := decide_eq_false (by omega)
          have b2 : decide ((G : Int) < (L : Int)) = true := decide_eq_true (by omega)
          replace hpq := Lib.hid hpq
          replace hgq := Lib.hid hgq
          replace hmq := Lib.hid hmq
          replace hTk := Lib.hid hTk
          replace hLc := Lib.hid hLc
          clear hv hp hm hrow hlt hat hdr hi hpr hrr hmr hT hget
          go_wp2_with fail
          go_quiet (fail)
          have hP := hpq.out nq
          have c2' := cell_at hP 2
          have f2' := free_at hP 2
          simp only [List.getElem?_toArray, List.getElem?_cons_succ, List.getElem?_cons_zero] at c2'
          rcases Nat.eq_zero_or_pos G with hG0 | hG0
          · have hcl := clear0
            have hO := hLc.out _ (hgq.out nq) [] (by rw [hG0]; rfl)
            subst hG0
            simp only [Nat.zero_mul, Nat.add_zero, Nat.sub_zero] at hO
            have hO : OffB eB 2 53 (wr.drewN nq) _ _ := hO
            obtain ⟨fin, gfin⟩ := fin_tb (ks := ks) hP (hmq.out nq) hO k4 k5 (fun k hk => by simp only [Value.ownBlock, Option.some.injEq] at hk; subst hk; exact k6')
            have hTf := (hTk.out.tr (Tch.bl (Bl.drewN wr nq))).tr (Tch.gby gfin k4)
            replace fin := Lib.hid fin
            replace hTf := Lib.hid hTf
            clear gfin hO
            go_wp2_with fail
            refine bodyPost_end (results_none rfl _ _ _) rfl ?_
            exact ⟨rfl, fin.out, hTf.out⟩
          · have hO := hLc.out _ (hgq.out nq) _ (zs_len G)
            have hks : G * 2 ≤ cap * 2 := by omega
            have hcl := run_clear (P := Try.prog) (w := wr.drewN nq) (t := 46) (ty := 0) (g := g') (o := o') (cap := cap) Try.underlying46 (zeroE (wr.drewN nq)) (show G ≠ 0 by omega)
              (fun j hj => by rw [zs_len] at hj; rw [cell_at (hgq.out nq), Array.getElem?_eq_getElem (by omega)]; rfl) (fun j => free_at (hgq.out nq) _) (zs_one G)
            have hgz := gby_setCells (wr.drewN nq) g' (Builtin.zeroCells (Value.agg #[I 0, sV ⟨#[]⟩]).cells G).toList o' (wr.drewN nq)
            obtain ⟨zs, hzs⟩ : ∃ z, (Builtin.zeroCells (Value.agg #[I 0, sV ⟨#[]⟩]).cells G).toList = z := ⟨_, rfl⟩
            rw [hzs] at hO hcl hgz
            obtain ⟨W, hW⟩ : ∃ z, (wr.drewN nq).setCells g' o' zs = z := ⟨_, rfl⟩
            rw [hW] at hO hcl hgz
            have hPW := blk_gby hP hgz hgp.symm
            have hmW := (hmq.out nq).row hgz (fun e => hgm (by cases e; rfl))
            have cW := cell_at hPW 2
            have fW := free_at hPW 2
            simp only [List.getElem?_toArray, List.getElem?_cons_succ, List.getElem?_cons_zero] at cW
            by_cases hcG : cap = G
            · exfalso; omega
            · obtain ⟨fin, gfin⟩ := fin_tb (ks := ks) hPW hmW hO k4 k5 (fun k hk => by simp only [Value.ownBlock, Option.some.injEq] at hk; subst hk; exact k6')
              have hTf := ((hTk.out.tr (Tch.bl (Bl.drewN wr nq))).tr (Tch.gby hgz k6')).tr (Tch.gby gfin k4)
              have hcg2 : ¬ cap - G = 0 := by omega
              replace fin := Lib.hid fin
              replace hTf := Lib.hid hTf
              clear gfin hO hgz hzs hW hPW hmW hP
              go_wp2_with fail
              refine bodyPost_end (results_none rfl _ _ _) rfl ?_
              exact ⟨rfl, fin.out, hTf.out⟩
/-- Called, and called as a deferred one. -/
theorem forget_any {ks : Nat → Prop} {w : World} {p : Nat} {h : Int} {R : List En} (t : TB ks w p h R) (hi : InvR h R) (hR : R.length ≤ 1000000) (h0 : 1 ≤ h) (h1 : h ≤ 1000000) (now : Int) :
    Calls Try.prog 23 #[ptr p, I now] w fun e w' => e = .returned (.tuple #[]) ∧ TB ks w' p h (leftR h now R) ∧ Tch ks w w' := by
  obtain ⟨c, hb, hw⟩ := forget_body t hi hR h0 h1 now
  exact calls_of_wp Try.func23 hb hw
theorem forget_d {ks : Nat → Prop} {w : World} {p : Nat} {h : Int} {R : List En} (t : TB ks w p h R) (hi : InvR h R) (hR : R.length ≤ 1000000) (h0 : 1 ≤ h) (h1 : h ≤ 1000000) (now : Int) (u : FrameMode) :
    CallsD Try.prog 23 #[ptr p, I now] u w fun e u' w' => u' = u ∧ e = .returned (.tuple #[]) ∧ TB ks w' p h (leftR h now R) ∧ Tch ks w w' := by
  obtain ⟨c, hb, hw⟩ := forget_body t hi hR h0 h1 now
  exact callsD_of_wp Try.func23 hb hw
end Go.Proofs.Ytfpapfnpppggeaa.dedup
