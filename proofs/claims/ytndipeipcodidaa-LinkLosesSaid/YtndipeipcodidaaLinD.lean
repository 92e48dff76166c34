/-
  Package link: New.
-/
import Derived.Test.YtndipeipcodidaaLinC
import Derived.Deep.RegionHeld3
import Derived.Deep.RegionHeldLaw
import Derived.Deep.CutRange
namespace Go.Proofs.Ytndipeipcodidaa.link
open Go.ChangeShapes Go.WideShapes Go.ChangeAt Go.RowKit
set_option linter.unusedVariables false
set_option linter.unusedSimpArgs false

/-- 's = append(s, x)' as one step of a region that draws: s the call's own, x one element of some cells. -/
theorem step_append_row {P : Program} {ops : Array Oper} {o : Oper} {a : Act} {K : Act → World → Prop} {Q : Exit → Act → World → Prop} {E : Prop} {wr : World} (hgd : o.guard = none) (s x : Operand) (t : TypeId)
    (ho : o.op = .call { callee := .builtin .append, args := #[s, x], argTypes := #[t, t] })
    (base : Nat) (e : TypeId) (i : TypeInfo) (z : Value) (size bytes : Nat) (ht : P.underlying t = some (.slice e)) (hi : P.info? e = some i) (hz : i.zero = some z) (hsize : i.size = size) (hby : i.bytes = bytes) (hzs : z.cells.size = size) (hsz : 0 < size)
    (v : Value) (n : Nat) (xs : List Value) (hs : a.eval s = v) (hown : wr.ownsRow base e size v n xs) (ys : Array Value) (te : TypeId) (hyl : ys.size = size) (hy : ∀ u ∈ ys.toList, u.oneCell' = true) (c : Nat)
    (hx : a.eval x = .slice (some ⟨wr.heap.size, 0, none⟩) 1 c) (hb : (n + 1) * bytes ≤ 140737488355328) (hn : n ≤ 1000000000) (hbase : base ≤ wr.heap.size)
    (h : ∀ b cap w1, w1.ownsRow base e size (.slice (some ⟨b, 0, none⟩) (n + 1) cap) (n + 1) (xs ++ ys.toList) → wr.grownBy w1 v.ownBlock → K (a.put o.dst (.slice (some ⟨b, 0, none⟩) (n + 1) cap)) w1) :
    if Region.wanted o (yielded ops a.tmps) = true then Oper.wp P o a (wr.alloc (.cells ys te)) K Q else E := by
  have hw : Region.wanted o (yielded ops a.tmps) = true := by simp [Region.wanted, hgd]
  rw [if_pos hw]
  refine wp_append_own _ s x t ho base e i z size bytes ht hi hz hsize hby hzs hsz v n xs hs (hown.alloc _) ⟨wr.heap.size, 0, none⟩ 1 c ys.toList hx (by simp [hyl]) ?_ hy (by unfold maxLen; omega) hb (by simp; omega) ?_
  · intro j u hj
    rw [add_plain, cell_at (heap_alloc_new wr (.cells ys te))]
    simpa using hj
  intro v' w1 hown' hgrow _
  have hg : wr.grownBy w1 v.ownBlock := gby_tr (World.grownBy_alloc wr _ _) hgrow
  have hown2 := hown'
  obtain ⟨_, h2⟩ := hown'
  rcases h2 with ⟨_, h0⟩ | ⟨g, cap, cur, rfl, _⟩
  · omega
  · exact h g cap w1 hown2 hg
theorem infoF : (Try.prog.info? 55).map (fun i => (i.zero, i.size, i.bytes)) = some (some (.agg #[I 0, I 0, I 0, I 0, I 0, I 0]), 6, 48) := by kernel_rfl
theorem new_lk (w : World) (hop : Int) : LK (w.alloc (.cells #[I hop, .slice none 0 0, I 0, I 0, I 0, I 0, I 0, I 0, I 0, I 0, I 0, I 0, I 0, I 0, I 0, I 0, I 0, I 0, I 0, I 0, I 0, I 0, I 0, I 0, I 0, I 0, I 0, I 0, I 0, I 0, I 0, I 0, I 0, I 0, I 0, I 0, I 0, I 0, I 0, I 0, I 0, I 0] 54)) w.heap.size hop (.slice none 0 0) (List.replicate 40 0) :=
  ⟨by simp, heap_alloc_new _ _⟩

theorem LK.kept7 {w w' : World} {p : Nat} {hop : Int} {fsv : Value} {cnt : List Int} {row : Option Nat} (h : LK w p hop fsv cnt) (hg : w.grownBy w' row) (hr : ∀ q, row = some q → q ≠ p) : LK w' p hop fsv cnt :=
  ⟨h.1, by rw [hg.block p h.lt (fun e => (hr p e.symm) rfl)]; exact h.2⟩
theorem var_row {w w' : World} {x : Nat} {o : Obj} {row : Option Nat} (h : w.heap[x]? = some o) (hg : w.grownBy w' row) (hr : ∀ q, row = some q → q ≠ x) : w'.heap[x]? = some o := by
  rw [hg.block x (lt_of_block h) (fun e => (hr x e.symm) rfl)]; exact h
theorem y_six {w : World} {y : Nat} {a b c d e f : Int} {t : TypeId} (h : w.heap[y]? = some (.cells #[I a, I b, I c, I d, I e, I f] t (0, 0))) : w.cell? ⟨y, 0, none⟩ = some (I a) ∧ w.cell? ⟨y, 1, none⟩ = some (I b) ∧ w.cell? ⟨y, 2, none⟩ = some (I c) ∧ w.cell? ⟨y, 3, none⟩ = some (I d) ∧ w.cell? ⟨y, 4, none⟩ = some (I e) ∧ w.cell? ⟨y, 5, none⟩ = some (I f) := by
  refine ⟨?_, ?_, ?_, ?_, ?_, ?_⟩ <;> simp [World.cell?, h]
def NewD (hop : Int) (A : List Flt) (w : World) : Ending → World → Prop := fun e w' => ∃ p g a cap, e = .returned (ptr p) ∧ w.heap.size ≤ p ∧ g ≠ p ∧ LK w' p hop (.slice a A.length cap) (List.replicate 40 0) ∧ FRow w' g a A ∧ Bl w w'

set_option maxHeartbeats 4000000 in
set_option maxRecDepth 20000 in
theorem new_any (w : World) (hop : Int) (g0 : Nat) (a : Option Addr) (cap : Nat) (A : List Flt) (hA : FRow w g0 a A) (hN : A.length ≤ 40) (hcap : A.length ≤ cap) :
    Calls Try.prog 10 #[.int .i64 hop, .slice a A.length cap] w (NewD hop A w) := by
  obtain ⟨iu, hiu, zu0, zu1, zu2⟩ := info_parts infoF
  obtain ⟨N, hNN⟩ : ∃ z, A.length = z := ⟨_, rfl⟩
  rw [hNN] at hN hcap ⊢
  have hk0 := Lib.hid (new_lk w hop)
  have hmn : (if (40 : Int) < N then 40 else (N : Int)) = N := by split <;> omega
  replace hA := Lib.hid hA; replace hNN := Lib.hid hNN
  go_enter Try.func10, Try.ntmps10
  go_wp2_with fail
  obtain ⟨w1, hw1⟩ : ∃ zz, w.alloc (.cells #[I hop, .slice none 0 0, I 0, I 0, I 0, I 0, I 0, I 0, I 0, I 0, I 0, I 0, I 0, I 0, I 0, I 0, I 0, I 0, I 0, I 0, I 0, I 0, I 0, I 0, I 0, I 0, I 0, I 0, I 0, I 0, I 0, I 0, I 0, I 0, I 0, I 0, I 0, I 0, I 0, I 0, I 0, I 0] 54) = zz := ⟨_, rfl⟩
  have hbw : Bl w w1 := by rw [← hw1]; exact (Bl.rfl' w).al _
  have hk1 := hk0.out
  have hsz : w1.heap.size = w.heap.size + 1 := by rw [← hw1]; simp
  rw [hw1] at hk1 ⊢
  clear hk0 hw1
  obtain ⟨p, hp⟩ : ∃ zz, w.heap.size = zz := ⟨_, rfl⟩
  rw [hp] at hk1 hsz ⊢
  have hwp : w.heap.size ≤ p := by omega
  obtain ⟨b0, hb0⟩ : ∃ zz, w1.heap.size = zz := ⟨_, rfl⟩
  have hpb : p < b0 := by omega
  replace hk1 := Lib.hid hk1; replace hbw := Lib.hid hbw
  go_loopw [17] (fun i wr => ∃ (k : Nat) (fsv : Value), k ≤ N ∧ i = I k ∧ LK wr p hop fsv (List.replicate 40 0) ∧ wr.ownsRow b0 55 6 fsv k (flat (A.take k)) ∧ b0 ≤ wr.heap.size ∧ Bl w wr) (fun i _ => N - (intOf i).toNat)
  case atStart => exact ⟨0, _, by omega, rfl, hk1.out, World.ownsRow_nil _ _ _ _, by omega, hbw.out⟩
  case round =>
    obtain ⟨k, fsv, hkN, rfl, hL, hown, hbz, hbr⟩ := hrel
    clear hk1 hbw
    by_cases hlt : k < N
    · obtain ⟨rfl, q0, q1, q2, q3, q4, q5⟩ := (hA.out.bl hbr).c k (by rw [hNN.out]; exact hlt)
      have htk := take_snoc A k fl0 (by rw [hNN.out]; exact hlt)
      obtain ⟨x, hx⟩ : ∃ z, A.getD k fl0 = z := ⟨_, rfl⟩
      rw [hx] at q0 q1 q2 q3 q4 q5 htk
      obtain ⟨xk, xf, xt, xa, xb, xn⟩ := x
      simp only at q0 q1 q2 q3 q4 q5
      have hal := ((Bl.rfl' wr).al (.cells #[I xk, I xf, I xt, I xa, I xb, I xn] 40)).dr
      have hyd := var_bl (heap_alloc_new wr (.cells #[I xk, I xf, I xt, I xa, I xb, I xn] 40)) (Bl.rfl' _).dr
      have hLd := hL.bl hal
      have hLa := hL.bl ((Bl.rfl' wr).al (.cells #[I xk, I xf, I xt, I xa, I xb, I xn] 40))
      have hownd := own_below hown hal
      have hbd := hbr.tr hal
      have hszd := hal.size
      have hyp : wr.heap.size ≠ p := by have := hL.lt; omega
      have hblk : ∀ q, fsv.ownBlock = some q → q ≠ p := fun q hq => by have := (hown.lt q hq).1; omega
      have hblk2 : ∀ q, fsv.ownBlock = some q → q ≠ wr.heap.size := fun q hq => by have := (hown.lt q hq).2; omega
      have hblk3 : ∀ q, fsv.ownBlock = some q → w.heap.size ≤ q := fun q hq => by have := (hown.lt q hq).1; omega
      go_upto_region 5 with fail
      obtain ⟨y, hy⟩ : ∃ zz, wr.heap.size = zz := ⟨_, rfl⟩
      rw [hy] at hyd hyp hblk2 ⊢
      obtain ⟨wa, hwa⟩ : ∃ zz, wr.alloc (.cells #[I xk, I xf, I xt, I xa, I xb, I xn] 40) = zz := ⟨_, rfl⟩
      rw [hwa] at hyd hLd hLa hownd hbd hszd ⊢
      have hbzd : b0 ≤ wa.drew.heap.size := by omega
      have c1 := hLd.c.2
      replace hyd := Lib.hid hyd; replace hLd := Lib.hid hLd; replace hLa := Lib.hid hLa; replace hownd := Lib.hid hownd; replace hbd := Lib.hid hbd
      replace hblk := Lib.hid hblk; replace hblk2 := Lib.hid hblk2; replace hblk3 := Lib.hid hblk3; replace hbz := Lib.hid hbzd; replace htk := Lib.hid htk
      clear hal hL hown hbr q0 q1 q2 q3 q4 q5 hwa hx
      refine wp_region_held_drew (S := fun w' => w'.cell? ⟨y, 0, none⟩ = some (I xk) ∧ w'.cell? ⟨y, 1, none⟩ = some (I xf) ∧ w'.cell? ⟨y, 2, none⟩ = some (I xt) ∧ w'.cell? ⟨y, 3, none⟩ = some (I xa) ∧ w'.cell? ⟨y, 4, none⟩ = some (I xb) ∧ w'.cell? ⟨y, 5, none⟩ = some (I xn)) (by kernel_rfl) ?_ (fun hHeld => ?_)
      · exact y_six hyd.out
      refine wpAnyH_take (i := 0) (v := ?v0) rfl (by kernel_rfl) (by kernel_rfl) (by kernel_rfl) (fun _ _ _ h => h) (Or.inl ⟨by rfl, ?y0⟩) hHeld ?r0
      case y0 => (intro w hSw; (try dsimp only at hSw); go_split_ands; go_simp; try with_reducible rfl)
      try simp only [List.getElem_toArray, List.getElem_cons_succ, List.getElem_cons_zero, Act.put, List.setIfInBounds_toArray, List.set_cons_zero, List.set_cons_succ]
      refine wpAnyH_take (i := 1) (v := ?v1) rfl (by kernel_rfl) (by kernel_rfl) (by kernel_rfl) (fun _ _ _ h => h) (Or.inl ⟨by rfl, ?y1⟩) hHeld ?r1
      case y1 => (intro w hSw; (try dsimp only at hSw); go_split_ands; go_simp; try with_reducible rfl)
      try simp only [List.getElem_toArray, List.getElem_cons_succ, List.getElem_cons_zero, Act.put, List.setIfInBounds_toArray, List.set_cons_zero, List.set_cons_succ]
      refine wpAnyH_take (i := 2) (v := ?v2) rfl (by kernel_rfl) (by kernel_rfl) (by kernel_rfl) (fun _ _ _ h => h) (Or.inl ⟨by rfl, ?y2⟩) hHeld ?r2
      case y2 => (intro w hSw; (try dsimp only at hSw); go_split_ands; go_simp; try with_reducible rfl)
      try simp only [List.getElem_toArray, List.getElem_cons_succ, List.getElem_cons_zero, Act.put, List.setIfInBounds_toArray, List.set_cons_zero, List.set_cons_succ]
      refine wpAnyH_take (i := 3) (v := ?v3) rfl (by kernel_rfl) (by kernel_rfl) (by kernel_rfl) (fun _ _ _ h => h) (Or.inl ⟨by rfl, ?y3⟩) hHeld ?r3
      case y3 => (intro w hSw; (try dsimp only at hSw); go_split_ands; go_simp; try with_reducible rfl)
      try simp only [List.getElem_toArray, List.getElem_cons_succ, List.getElem_cons_zero, Act.put, List.setIfInBounds_toArray, List.set_cons_zero, List.set_cons_succ]
      refine wpAnyH_take (i := 5) (v := ?v5) rfl (by kernel_rfl) (by kernel_rfl) (by kernel_rfl) (fun _ _ _ h => h) (Or.inl ⟨by rfl, ?y5⟩) hHeld ?r5
      case y5 => (intro w hSw; (try dsimp only at hSw); go_split_ands; go_simp; try with_reducible rfl)
      try simp only [List.getElem_toArray, List.getElem_cons_succ, List.getElem_cons_zero, Act.put, List.setIfInBounds_toArray, List.set_cons_zero, List.set_cons_succ]
      refine wpAnyH_ready (rs := [4, 6]) (by kernel_rfl) (by simp) ?_
      refine AllReadyH.cons rfl (fun K hK => ?_) (AllReadyH.cons rfl (fun K hK => ?_) AllReadyH.nil)
      · have hHeld' := hHeld
        try dsimp only at hHeld'
        go_split_ands
        go_simp
        refine hK.out _ _ ?_ (fun hHeld => ?_)
        · exact y_six hyd.out
        clear hK K
        try simp only [List.getElem_toArray, List.getElem_cons_succ, List.getElem_cons_zero, Act.put, List.setIfInBounds_toArray, List.set_cons_zero, List.set_cons_succ]
        refine wpAnyH_ready (rs := [6]) (by kernel_rfl) (by simp) ?_
        refine AllReadyH.cons rfl (fun K hK => ?_) AllReadyH.nil
        have hHeld' := hHeld
        try dsimp only at hHeld'
        go_split_ands
        go_simp
        refine hK.out _ _ ?_ (fun hHeld => ?_)
        · exact y_six (var_bl hyd.out ((Bl.rfl' _).al _))
        clear hK K
        try simp only [List.getElem_toArray, List.getElem_cons_succ, List.getElem_cons_zero, Act.put, List.setIfInBounds_toArray, List.set_cons_zero, List.set_cons_succ]
        refine wpAnyH_ready (rs := [7]) (by kernel_rfl) (by simp) ?_
        refine AllReadyH.cons rfl (fun K hK => ?_) AllReadyH.nil
        refine step_append_row rfl (.tmp 25) (.tmp 27) 51 rfl b0 55 iu (.agg #[I 0, I 0, I 0, I 0, I 0, I 0]) 6 48 Try.underlying51 hiu zu0 zu1 zu2 rfl (by decide) _ k (flat (A.take k)) (by first | rfl | simp [Act.eval, Act.put]) hownd.out #[I xk, I xf, I xt, I xa, I xb, I xn] _ rfl (by intro u hu; simp at hu; rcases hu with rfl | rfl | rfl | rfl | rfl | rfl <;> rfl) 1 (by first | rfl | simp [Act.eval, Act.put]) (by omega) (by omega) (by omega) ?_
        intro b' cap' w7 hown' hgrow
        have hL7 := hLd.out.kept7 hgrow hblk.out
        have hy7 := var_row hyd.out hgrow hblk2.out
        have hT7 := hbd.out.grown hgrow hblk3.out
        have f7 := hL7.free 1
        have c7 := hL7.c.2
        have hL8 := Lib.hid (hL7.set_fs (.slice (some ⟨b', 0, none⟩) (k + 1) cap'))
        have hy8 := Lib.hid (var_gby hy7 (gby_set w7 p 1 (.slice (some ⟨b', 0, none⟩) (k + 1) cap')) hyp)
        have hT8 := Lib.hid (hT7.gp (gby_set w7 p 1 (.slice (some ⟨b', 0, none⟩) (k + 1) cap')) hwp)
        have hown8 := Lib.hid (hown'.kept (gby_set w7 p 1 (.slice (some ⟨b', 0, none⟩) (k + 1) cap')) (own_ne hown' hpb))
        have hz8 := Nat.le_trans hbz.out hgrow.size
        refine hK.out _ _ ?_ (fun hHeld => ?_)
        · exact y_six hy7
        clear hK K
        try simp only [List.getElem_toArray, List.getElem_cons_succ, List.getElem_cons_zero, Act.put, List.setIfInBounds_toArray, List.set_cons_zero, List.set_cons_succ]
        refine wpAnyH_take (i := 8) (v := ?v8) rfl (by kernel_rfl) (by kernel_rfl) (by kernel_rfl) (fun _ _ _ h => h) (Or.inl ⟨by rfl, ?y8⟩) hHeld ?r8
        case y8 => (intro w hSw; (try dsimp only at hSw); go_split_ands; go_simp; try with_reducible rfl)
        try simp only [List.getElem_toArray, List.getElem_cons_succ, List.getElem_cons_zero, Act.put, List.setIfInBounds_toArray, List.set_cons_zero, List.set_cons_succ]
        refine wpAnyH_take (i := 9) (v := ?v9) rfl (by kernel_rfl) (by kernel_rfl) (by kernel_rfl) (fun _ _ _ h => h) (Or.inl ⟨by rfl, ?y9⟩) hHeld ?r9
        case y9 => (intro w hSw; (try dsimp only at hSw); go_split_ands; go_simp; try with_reducible rfl)
        try simp only [List.getElem_toArray, List.getElem_cons_succ, List.getElem_cons_zero, Act.put, List.setIfInBounds_toArray, List.set_cons_zero, List.set_cons_succ]
        refine wpAnyH_ready (rs := [10]) (by kernel_rfl) (by simp) ?_
        refine AllReadyH.cons rfl (fun K hK => ?_) AllReadyH.nil
        have hHeld' := hHeld
        try dsimp only at hHeld'
        go_split_ands
        go_simp
        refine hK.out _ _ ?_ (fun hHeld => ?_)
        · exact y_six hy8.out
        clear hK K
        try simp only [List.getElem_toArray, List.getElem_cons_succ, List.getElem_cons_zero, Act.put, List.setIfInBounds_toArray, List.set_cons_zero, List.set_cons_succ]
        refine wpAnyH_done (by kernel_rfl) ?_ _
        go_wp2_with fail
        go_roundw
        case rel => exact ⟨k + 1, _, by omega, by go_num, hL8.out, by rw [htk.out, flat_app]; exact hown8.out, by simp; omega, hT8.out⟩
        case measure => simp [intOf]; omega
      · have hHeld' := hHeld
        try dsimp only at hHeld'
        go_split_ands
        go_simp
        refine hK.out _ _ ?_ (fun hHeld => ?_)
        · exact y_six (var_bl hyd.out ((Bl.rfl' _).al _))
        clear hK K
        try simp only [List.getElem_toArray, List.getElem_cons_succ, List.getElem_cons_zero, Act.put, List.setIfInBounds_toArray, List.set_cons_zero, List.set_cons_succ]
        have c1' := (hLa.out.bl ((Bl.rfl' _).al (.cells #[I xk, I xf, I xt, I xa, I xb, I xn] 55))).c.2
        refine wpAnyH_ready (rs := [4]) (by kernel_rfl) (by simp) ?_
        refine AllReadyH.cons rfl (fun K hK => ?_) AllReadyH.nil
        have hHeld' := hHeld
        try dsimp only at hHeld'
        go_split_ands
        go_simp
        refine hK.out _ _ ?_ (fun hHeld => ?_)
        · exact y_six (var_bl hyd.out ((Bl.rfl' _).al _))
        clear hK K
        try simp only [List.getElem_toArray, List.getElem_cons_succ, List.getElem_cons_zero, Act.put, List.setIfInBounds_toArray, List.set_cons_zero, List.set_cons_succ]
        refine wpAnyH_ready (rs := [7]) (by kernel_rfl) (by simp) ?_
        refine AllReadyH.cons rfl (fun K hK => ?_) AllReadyH.nil
        refine step_append_row rfl (.tmp 25) (.tmp 27) 51 rfl b0 55 iu (.agg #[I 0, I 0, I 0, I 0, I 0, I 0]) 6 48 Try.underlying51 hiu zu0 zu1 zu2 rfl (by decide) _ k (flat (A.take k)) (by first | rfl | simp [Act.eval, Act.put]) hownd.out #[I xk, I xf, I xt, I xa, I xb, I xn] _ rfl (by intro u hu; simp at hu; rcases hu with rfl | rfl | rfl | rfl | rfl | rfl <;> rfl) 1 (by first | rfl | simp [Act.eval, Act.put]) (by omega) (by omega) (by omega) ?_
        intro b' cap' w7 hown' hgrow
        have hL7 := hLd.out.kept7 hgrow hblk.out
        have hy7 := var_row hyd.out hgrow hblk2.out
        have hT7 := hbd.out.grown hgrow hblk3.out
        have f7 := hL7.free 1
        have c7 := hL7.c.2
        have hL8 := Lib.hid (hL7.set_fs (.slice (some ⟨b', 0, none⟩) (k + 1) cap'))
        have hy8 := Lib.hid (var_gby hy7 (gby_set w7 p 1 (.slice (some ⟨b', 0, none⟩) (k + 1) cap')) hyp)
        have hT8 := Lib.hid (hT7.gp (gby_set w7 p 1 (.slice (some ⟨b', 0, none⟩) (k + 1) cap')) hwp)
        have hown8 := Lib.hid (hown'.kept (gby_set w7 p 1 (.slice (some ⟨b', 0, none⟩) (k + 1) cap')) (own_ne hown' hpb))
        have hz8 := Nat.le_trans hbz.out hgrow.size
        refine hK.out _ _ ?_ (fun hHeld => ?_)
        · exact y_six hy7
        clear hK K
        try simp only [List.getElem_toArray, List.getElem_cons_succ, List.getElem_cons_zero, Act.put, List.setIfInBounds_toArray, List.set_cons_zero, List.set_cons_succ]
        refine wpAnyH_take (i := 8) (v := ?v8b) rfl (by kernel_rfl) (by kernel_rfl) (by kernel_rfl) (fun _ _ _ h => h) (Or.inl ⟨by rfl, ?y8b⟩) hHeld ?r8b
        case y8b => (intro w hSw; (try dsimp only at hSw); go_split_ands; go_simp; try with_reducible rfl)
        try simp only [List.getElem_toArray, List.getElem_cons_succ, List.getElem_cons_zero, Act.put, List.setIfInBounds_toArray, List.set_cons_zero, List.set_cons_succ]
        refine wpAnyH_take (i := 9) (v := ?v9b) rfl (by kernel_rfl) (by kernel_rfl) (by kernel_rfl) (fun _ _ _ h => h) (Or.inl ⟨by rfl, ?y9b⟩) hHeld ?r9b
        case y9b => (intro w hSw; (try dsimp only at hSw); go_split_ands; go_simp; try with_reducible rfl)
        try simp only [List.getElem_toArray, List.getElem_cons_succ, List.getElem_cons_zero, Act.put, List.setIfInBounds_toArray, List.set_cons_zero, List.set_cons_succ]
        refine wpAnyH_ready (rs := [10]) (by kernel_rfl) (by simp) ?_
        refine AllReadyH.cons rfl (fun K hK => ?_) AllReadyH.nil
        have hHeld' := hHeld
        try dsimp only at hHeld'
        go_split_ands
        go_simp
        refine hK.out _ _ ?_ (fun hHeld => ?_)
        · exact y_six hy8.out
        clear hK K
        try simp only [List.getElem_toArray, List.getElem_cons_succ, List.getElem_cons_zero, Act.put, List.setIfInBounds_toArray, List.set_cons_zero, List.set_cons_succ]
        refine wpAnyH_done (by kernel_rfl) ?_ _
        go_wp2_with fail
        go_roundw
        case rel => exact ⟨k + 1, _, by omega, by go_num, hL8.out, by rw [htk.out, flat_app]; exact hown8.out, by simp; omega, hT8.out⟩
        case measure => simp [intOf]; omega
    · obtain rfl : k = N := by omega
      have hAk := hNN.out
      have htake : A.take k = A := by rw [← hAk]; exact List.take_length
      rw [htake] at hown
      obtain ⟨a', g, cap', cur, rfl, hbg, hrow⟩ := own_blk hown (by decide)
      have hfr : FRow wr g a' A := fun hl => by
        obtain ⟨h1, h2, -, h4⟩ := hrow (by omega)
        exact ⟨h1, cur, _, h2, by rw [hAk]; exact h4⟩
      have hend : NewD hop A w (.returned (ptr p)) wr := ⟨p, g, a', cap', rfl, by omega, by omega, by rw [hAk]; exact hL, hfr, hbr⟩
      replace hend := Lib.hid hend
      clear hfr hrow hown hL hbr
      go_wp2_with fail
      go_ret
      exact hend.out
end Go.Proofs.Ytndipeipcodidaa.link
