/-
  Package rewrite: rules made of numbers.
-/
import Derived.Test.YtnmehmlenbbfbaaRwE
import Derived.Test.YtnmehmlenbbfbaaIntsR
import Derived.Test.YtnmehmlenbbfbaaHdLn
import Derived.Test.YtnmehmlenbbfbaaHdM
import Derived.Deep.SlicePairs
namespace Go.Proofs.Ytnmehmlenbbfbaa.mat
open Go.ChangeShapes Go.WideShapes Go.ChangeAt Go.RowKit
open Go.Proofs.Ytnmehmlenbbfbaa.heads
set_option linter.unusedVariables false
set_option linter.unusedSimpArgs false

abbrev nC (a0 a1 a2 a3 : Int) (k : Nat) : Array Value := #[I (if 0 < k then a0 else 0), I (if 1 < k then a1 else 0), I (if 2 < k then a2 else 0), I (if 3 < k then a3 else 0)]
abbrev oN4 (a0 a1 a2 a3 : Int) (k : Nat) : Obj := .cells (nC a0 a1 a2 a3 k) 3
theorem n_set {w : World} {r : Nat} {a0 a1 a2 a3 : Int} {k : Nat} (h : w.heap[r]? = some (oN4 a0 a1 a2 a3 k)) (hk : k < 4) (y : Int) (hy : y = [a0, a1, a2, a3].getD k 0) : (w.setCell ⟨r, k, none⟩ (I y)).heap[r]? = some (oN4 a0 a1 a2 a3 (k + 1)) := by
  have h1 := set_at k (I y) h
  rw [h1, hy]
  rcases k with _ | _ | _ | _ | k
  · rfl
  · rfl
  · rfl
  · rfl
  · omega
theorem n_cell {w : World} {r : Nat} {a0 a1 a2 a3 : Int} {k : Nat} (h : w.heap[r]? = some (oN4 a0 a1 a2 a3 k)) (j : Nat) (hj : j < 4) : ∃ v, w.cell? ⟨r, j, none⟩ = some v := by
  rw [cell_at h j]
  rcases j with _ | _ | _ | _ | j
  · exact ⟨_, rfl⟩
  · exact ⟨_, rfl⟩
  · exact ⟨_, rfl⟩
  · exact ⟨_, rfl⟩
  · omega
theorem n_end {a0 a1 a2 a3 : Int} {k N : Nat} (hk : k = min N 4) (h0 : N ≤ 0 → a0 = 0) (h1 : N ≤ 1 → a1 = 0) (h2 : N ≤ 2 → a2 = 0) (h3 : N ≤ 3 → a3 = 0) : nC a0 a1 a2 a3 k = #[I a0, I a1, I a2, I a3] := by
  subst hk
  rcases N with _ | _ | _ | _ | N
  · rw [h0 (by omega), h1 (by omega), h2 (by omega), h3 (by omega)]; rfl
  · rw [h1 (by omega), h2 (by omega), h3 (by omega)]; rfl
  · rw [h2 (by omega), h3 (by omega)]; rfl
  · rw [h3 (by omega)]; rfl
  · have : min (N + 1 + 1 + 1 + 1) 4 = 4 := by omega
    rw [this]; rfl
theorem gby_row (w : World) (g : Nat) (cs : Array Value) : w.grownBy (w.setRow g cs) (some g) := by
  refine ⟨rfl, rfl, rfl, by simp [World.setRow], fun k hk hne => setRow_other w g k cs (fun e => hne (by rw [e]))⟩
theorem build_ru (pp px : ByteArray) (ex : Bool) (w : World) : (Instr.build 35 #[(0, .agg #[S pp, .bool ex, .slice none 0 0]), (4, S px)]).run Try.prog w = .ok (rV pp ex px nilS nilS) w := run_build w _ _ _ (by kernel_rfl)
theorem step_store_ru {ops : Array Oper} {o : Oper} {a : Act} {w : World} {K : Act → World → Prop} {Q : Exit → Act → World → Prop} {E : Prop} (hgd : o.guard = none) (x y : Operand) (ho : o.op = .store 35 x y) (g : Nat) (hx : a.eval x = .pointer (some ⟨g, 0, none⟩))
    (cells z : Array Value) (hy : a.eval y = .agg cells) (hg : w.heap[g]? = some (.cells z 35 (0, 0))) (hs : cells.size = 19) (hz : z.size = 19) (h1 : cells.all (·.oneCell') = true) (h : K (a.put o.dst undef) (w.setRow g cells)) :
    if Region.wanted o (yielded ops a.tmps) = true then Oper.wp Try.prog o a w K Q else E := by
  have hw : Region.wanted o (yielded ops a.tmps) = true := by simp [Region.wanted, hgd]
  rw [if_pos hw]
  exact wp_store_row 35 x y ho g cells hx hy 35 z hg (by rw [sizeRu, hs]) (by rw [hz, hs]) h1 h
theorem ints_ownR {w : World} {base : Nat} {v : Value} {L : List Int} (h : w.ownsRow base 3 1 v L.length (L.map I)) : IntsAt w v L := by
  have h2 := Rd.of_own (g := icell L) h (fun i hi => by
    rw [Nat.mul_one] at hi
    simp [icell, List.getD, List.getElem?_eq_getElem hi])
  rw [Nat.mul_one] at h2
  exact h2
def rpx (z : List Int) : ByteArray := if around (z.getD 3 0) 6 = 5 then ⟨#[]⟩ else ofF (z.getD 1 0)
def rset (z : List Int) : List Hd := headsF ((z.drop (min z.length 4)).take (min (z.drop (min z.length 4)).length 4)) (min (min (z.drop (min z.length 4)).length 4) 12)
theorem getD_out (z : List Int) (j : Nat) (h : z.length ≤ j) : z.getD j 0 = 0 := by
  rw [List.getD_eq_getElem?_getD, List.getElem?_eq_none h]; rfl
set_option maxRecDepth 20000 in
set_option maxHeartbeats 8000000 in
theorem rule_mk (z0 : List Int) (v : Value) (w : World) (hv : IntsR w v z0) (hz : i64ok z0) (hm : z0.length ≤ maxLen) :
    Calls Try.prog 10 #[v] w fun e w' => ∃ sv dv H D, e = .returned (rV (ofF (z0.getD 0 0)) (decide (around (z0.getD 2 0) 4 = 1)) (rpx z0) sv dv) ∧ HeadsAt w' sv H ∧ TextsAt w' dv D ∧ Bl w w' ∧ OkH H ∧ D.length ≤ 6 := by
  have hzz : ∀ k, -9223372036854775808 ≤ z0.getD k 0 ∧ z0.getD k 0 ≤ 9223372036854775807 := fun k => by
    by_cases hk : k < z0.length
    · exact hz _ (getD_mem z0 k 0 hk)
    · rw [getD_out z0 k (by omega)]; omega
  obtain ⟨a, cap, rfl, hc1, hc2, hc3, hc4⟩ := hv
  have hv : IntsR w (.slice a z0.length cap) z0 := ⟨a, cap, rfl, hc1, hc2, hc3, hc4⟩
  have RD := Lib.hid (fun w' (hb : Bl w w') => hv.bl hb)
  have hNc := hc1
  have CE := Lib.hid (fun w' (hb : Bl w w') i (hi : i < z0.length) => (by
    obtain ⟨b, o, e, hl, hc⟩ := hc4 i hi
    exact ⟨b, o, e, (hb.cell (p := ⟨b, o + i, none⟩) hl).trans hc⟩ : ∃ b o, a = some ⟨b, o, none⟩ ∧ w'.cell? ⟨b, o + i, none⟩ = some (I (z0.getD i 0))))
  have hout := getD_out z0
  obtain ⟨gz, hgz⟩ : ∃ f : Nat → Int, (fun k => z0.getD k 0) = f := ⟨_, rfl⟩
  have hg : ∀ k, z0.getD k 0 = gz k := fun k => congrFun hgz k
  have hpx : rpx z0 = if around (gz 3) 6 = 5 then ⟨#[]⟩ else ofF (gz 1) := by unfold rpx; rw [hg, hg]
  rw [hpx, hg 0, hg 2]
  simp only [hg] at hzz CE hout
  clear hgz hg hpx
  replace hz := Lib.hid hz
  obtain ⟨RX, hRX⟩ : ∃ X, (if around (gz 3) 6 = 5 then (⟨#[]⟩ : ByteArray) else ofF (gz 1)) = X := ⟨_, rfl⟩
  rw [hRX]
  have b0 := heap_alloc_new w (oRu ⟨#[]⟩ false ⟨#[]⟩ nilS nilS)
  have i0 := (Bl.rfl' w).al (oRu ⟨#[]⟩ false ⟨#[]⟩ nilS nilS)
  obtain ⟨w1, h1⟩ : ∃ X, w.alloc (.cells #[.string ⟨#[]⟩, .bool false, .slice none 0 0, .slice none 0 0, .int .i64 0, .int .i64 0, .int .i64 0, .int .i64 0, .string ⟨#[]⟩, .slice none 0 0, .slice none 0 0, .int .i64 0, .int .i64 0, .int .i64 0, .int .i64 0, .int .i64 0, .int .i64 0, .int .i64 0, .int .i64 0] 35) = X := ⟨_, rfl⟩
  have h1' : w.alloc (oRu ⟨#[]⟩ false ⟨#[]⟩ nilS nilS) = w1 := h1
  rw [h1'] at b0 i0
  obtain ⟨r0, e0⟩ : ∃ X, w.heap.size = X := ⟨_, rfl⟩
  have e0' := e0
  rw [e0] at b0
  have bn := heap_alloc_new w1 (oN4 (gz 0) (gz 1) (gz 2) (gz 3) 0)
  have i1 := (Bl.rfl' w1).al (oN4 (gz 0) (gz 1) (gz 2) (gz 3) 0)
  obtain ⟨w2, h2⟩ : ∃ X, w1.alloc (.cells #[.int .i64 0, .int .i64 0, .int .i64 0, .int .i64 0] 3) = X := ⟨_, rfl⟩
  have h2' : w1.alloc (oN4 (gz 0) (gz 1) (gz 2) (gz 3) 0) = w2 := h2
  rw [h2'] at bn i1
  obtain ⟨rn, e1⟩ : ∃ X, w1.heap.size = X := ⟨_, rfl⟩
  rw [e1] at bn
  have hlt0 : r0 < rn := by rw [← e1]; exact lt_of_block b0
  replace b0 := blk_bl b0 i1
  have t0 := i0.tr i1
  have hge : w.heap.size ≤ rn := by omega
  clear h1' h2' i0 i1
  unfold maxLen at hm
  obtain ⟨N, hN⟩ : ∃ z_, (z0.length) = z_ := ⟨_, rfl⟩
  rw [hN] at hm hNc
  simp only [hN] at CE RD hout
  rw [hN]
  have hN' := Lib.hid hN
  clear hc1 hc2 hc3 hc4 hv hN
  replace b0 := Lib.hid b0
  replace bn := Lib.hid bn
  replace t0 := Lib.hid t0
  replace hRX := Lib.hid hRX
  replace e0' := Lib.hid e0'
  replace hge := Lib.hid hge
  replace hout := Lib.hid hout
  replace hzz := Lib.hid hzz
  clear e0
  go_enter Try.func10, Try.ntmps10
  go_upto_region 3 with fail
  go_loopw [4] (fun iv wr => ∃ k : Nat, k ≤ N ∧ k ≤ 4 ∧ iv = I k ∧ wr.heap[rn]? = some (oN4 (gz 0) (gz 1) (gz 2) (gz 3) k) ∧ wr.heap[r0]? = some (oRu ⟨#[]⟩ false ⟨#[]⟩ nilS nilS) ∧ Bl w wr) (fun iv _ => 4 - (intOf iv).toNat)
  case atStart => exact ⟨0, by omega, by omega, rfl, bn.out, b0.out, t0.out⟩
  case round =>
    obtain ⟨k, hkN, hk4, rfl, hn, h0, hb⟩ := hrel
    by_cases hlt : k < 4 ∧ k < N
    · obtain ⟨hl4, hlN⟩ := hlt
      have d1 : decide ((k : Int) < 4) = true := decide_eq_true (by omega)
      have d2 : decide ((k : Int) < (N : Int)) = true := decide_eq_true (by omega)
      have d3 : decide (k < 4) = true := decide_eq_true hl4
      have d4 : decide (k < N) = true := decide_eq_true hlN
      have hl4i : (k : Int) < 4 := by omega
      have wk : IntKind.i64.wrap ((k : Int) + 1) = ((k + 1 : Nat) : Int) := by rw [IntKind.wrap_i64]; omega
      obtain ⟨b, o, ea, hc⟩ := CE.out wr hb k hlN
      subst ea
      obtain ⟨ov, hov⟩ := n_cell hn k hl4
      have fn := free_at hn k
      have hn2 := n_set hn hl4 (gz k) (by rcases k with _ | _ | _ | _ | k <;> first | rfl | omega)
      have hgs := gby_set wr rn k (I (gz k))
      have h02 := (hgs.block r0 (lt_of_block h0) (fun e => by cases e; omega)).trans h0
      have hb2 := hb.gp hgs hge.out
      obtain ⟨w3, hw3⟩ : ∃ X, wr.setCell ⟨rn, k, none⟩ (I (gz k)) = X := ⟨_, rfl⟩
      rw [hw3] at hn2 h02 hb2
      clear hgs hn h0
      replace hb := Lib.hid hb
      replace hn2 := Lib.hid hn2
      replace h02 := Lib.hid h02
      replace hb2 := Lib.hid hb2
      go_wp2_with fail
      go_roundw
      case rel => exact ⟨k + 1, by omega, by omega, by first | rfl | go_num, hn2.out, h02.out, hb2.out⟩
      case measure => simp [intOf] <;> omega
    · have hkm : k = min N 4 := by omega
      have hne := n_end (a0 := gz 0) (a1 := gz 1) (a2 := gz 2) (a3 := gz 3) hkm (hout.out 0) (hout.out 1) (hout.out 2) (hout.out 3)
      have hn4 : wr.heap[rn]? = some (.cells #[I (gz 0), I (gz 1), I (gz 2), I (gz 3)] 3 (0, 0)) := by rw [hn]; exact congrArg (fun c => some (Obj.cells c 3 (0, 0))) hne
      have z0b := hzz.out 0
      have z1b := hzz.out 1
      have z2b := hzz.out 2
      have z3b := hzz.out 3
      have O0 := Lib.hid (fun w => of_any (gz 0) w z0b.1 z0b.2)
      have O1 := Lib.hid (fun w => of_any (gz 1) w z1b.1 z1b.2)
      have AR2 := Lib.hid (fun w => around_any (gz 2) 4 w z2b.1 z2b.2 (by omega) (by omega))
      have AR3 := Lib.hid (fun w => around_any (gz 3) 6 w z3b.1 z3b.2 (by omega) (by omega))
      have hdec : (around (gz 2) 4 == 1) = decide (around (gz 2) 4 = 1) := by
        by_cases h : around (gz 2) 4 = 1
        · rw [decide_eq_true h, beq_iff_eq]; exact h
        · rw [decide_eq_false h, beq_eq_false_iff_ne]; exact h
      obtain ⟨ex, hex⟩ : ∃ b, decide (around (gz 2) 4 = 1) = b := ⟨_, rfl⟩
      rw [hex] at hdec
      obtain ⟨pp, hpp⟩ : ∃ X, ofF (gz 0) = X := ⟨_, rfl⟩
      obtain ⟨px0, hpx0⟩ : ∃ X, ofF (gz 1) = X := ⟨_, rfl⟩
      simp only [hpp] at O0
      simp only [hpx0] at O1
      obtain ⟨a2', ha2⟩ : ∃ X, around (gz 2) 4 = X := ⟨_, rfl⟩
      simp only [ha2] at AR2
      rw [ha2] at hdec
      have bR := build_ru pp px0 ex
      have g0 : Bl wr wr.drew := (Bl.rfl' wr).dr
      have d5 : k < 4 → ¬ k < N := fun h1 h2 => hlt ⟨h1, h2⟩
      obtain ⟨x0, hx0⟩ : ∃ X, wr.drew = X := ⟨_, rfl⟩
      rw [hx0] at g0
      have KX := Lib.hid (fun w' (hb : Bl x0 w') => (⟨cell_at (blk_bl hn4 (g0.tr hb)) 0, cell_at (blk_bl hn4 (g0.tr hb)) 1, cell_at (blk_bl hn4 (g0.tr hb)) 2⟩ : w'.cell? ⟨rn, 0, none⟩ = some (I (gz 0)) ∧ w'.cell? ⟨rn, 1, none⟩ = some (I (gz 1)) ∧ w'.cell? ⟨rn, 2, none⟩ = some (I (gz 2))))
      have hq := Lib.hid (Bl.rfl' x0)
      by_cases hk : k < 4
      · have c1 : decide ((k : Int) < 4) = true := decide_eq_true (by omega)
        have c2 : decide (k < 4) = true := decide_eq_true hk
        have c3 : decide ((k : Int) < (N : Int)) = false := decide_eq_false (by omega)
        have c4 : decide (k < N) = false := decide_eq_false (d5 hk)
        clear hlt d5 hk hkm hne hout
        replace hn := Lib.hid hn
        replace hn4 := Lib.hid hn4
        replace h0 := Lib.hid h0
        replace hb := Lib.hid hb
        replace hex := Lib.hid hex
        replace hpp := Lib.hid hpp
        replace hpx0 := Lib.hid hpx0
        replace ha2 := Lib.hid ha2
        go_upto_region 6 with fail
        go_cut [5] from 25 to 39 (fun q wx => ∃ py, q = .pointer (some ⟨py, 0, none⟩) ∧ x0.heap.size ≤ py ∧ wx.heap[py]? = some (oRu pp ex px0 nilS nilS) ∧ Bl x0 wx)
        case first =>
          refine wp_region_held_drew (S := fun w' => w'.cell? ⟨rn, 0, none⟩ = some (I (gz 0)) ∧ w'.cell? ⟨rn, 1, none⟩ = some (I (gz 1)) ∧ w'.cell? ⟨rn, 2, none⟩ = some (I (gz 2))) (by kernel_rfl) ?_ (fun hHeld => ?_)
          · exact KX.out _ (by rw [hx0]; exact hq.out)
          rw [hx0] at hHeld ⊢
          clear hx0
          refine wpAnyH_take (i := 0) (v := ?v0_1) rfl (by kernel_rfl) (by kernel_rfl) (by kernel_rfl) (fun _ _ _ h => h) (Or.inl ⟨by rfl, ?y0_1⟩) hHeld ?r0_1
          case y0_1 => (intro w hSw; (try dsimp only at hSw); go_split_ands; go_simp; try with_reducible rfl)
          try simp only [List.getElem_toArray, List.getElem_cons_succ, List.getElem_cons_zero, Act.put, List.setIfInBounds_toArray, List.set_cons_zero, List.set_cons_succ]
          refine wpAnyH_take (i := 1) (v := ?v1_2) rfl (by kernel_rfl) (by kernel_rfl) (by kernel_rfl) (fun _ _ _ h => h) (Or.inl ⟨by rfl, ?y1_2⟩) hHeld ?r1_2
          case y1_2 => (intro w hSw; (try dsimp only at hSw); go_split_ands; go_simp; try with_reducible rfl)
          try simp only [List.getElem_toArray, List.getElem_cons_succ, List.getElem_cons_zero, Act.put, List.setIfInBounds_toArray, List.set_cons_zero, List.set_cons_succ]
          refine wpAnyH_take (i := 2) (v := ?v2_3) rfl (by kernel_rfl) (by kernel_rfl) (by kernel_rfl) (fun _ _ _ h => h) (Or.inl ⟨by rfl, ?y2_3⟩) hHeld ?r2_3
          case y2_3 => (intro w hSw; (try dsimp only at hSw); go_split_ands; go_simp; try with_reducible rfl)
          try simp only [List.getElem_toArray, List.getElem_cons_succ, List.getElem_cons_zero, Act.put, List.setIfInBounds_toArray, List.set_cons_zero, List.set_cons_succ]
          refine wpAnyH_take (i := 4) (v := ?v4_4) rfl (by kernel_rfl) (by kernel_rfl) (by kernel_rfl) (fun _ _ _ h => h) (Or.inl ⟨by rfl, ?y4_4⟩) hHeld ?r4_4
          case y4_4 => (intro w hSw; (try dsimp only at hSw); go_split_ands; go_simp; try with_reducible rfl)
          try simp only [List.getElem_toArray, List.getElem_cons_succ, List.getElem_cons_zero, Act.put, List.setIfInBounds_toArray, List.set_cons_zero, List.set_cons_succ]
          refine wpAnyH_take (i := 5) (v := ?v5_5) rfl (by kernel_rfl) (by kernel_rfl) (by kernel_rfl) (fun _ _ _ h => h) (Or.inl ⟨by rfl, ?y5_5⟩) hHeld ?r5_5
          case y5_5 => (intro w hSw; (try dsimp only at hSw); go_split_ands; go_simp; try with_reducible rfl)
          try simp only [List.getElem_toArray, List.getElem_cons_succ, List.getElem_cons_zero, Act.put, List.setIfInBounds_toArray, List.set_cons_zero, List.set_cons_succ]
          refine wpAnyH_take (i := 6) (v := ?v6_6) rfl (by kernel_rfl) (by kernel_rfl) (by kernel_rfl) (fun _ _ _ h => h) (Or.inl ⟨by rfl, ?y6_6⟩) hHeld ?r6_6
          case y6_6 => (intro w hSw; (try dsimp only at hSw); go_split_ands; go_simp; try with_reducible rfl)
          try simp only [List.getElem_toArray, List.getElem_cons_succ, List.getElem_cons_zero, Act.put, List.setIfInBounds_toArray, List.set_cons_zero, List.set_cons_succ]
          refine wpAnyH_take (i := 10) (v := ?v10_7) rfl (by kernel_rfl) (by kernel_rfl) (by kernel_rfl) (fun _ _ _ h => h) (Or.inl ⟨by rfl, ?y10_7⟩) hHeld ?r10_7
          case y10_7 => (intro w hSw; (try dsimp only at hSw); go_split_ands; go_simp; try with_reducible rfl)
          try simp only [List.getElem_toArray, List.getElem_cons_succ, List.getElem_cons_zero, Act.put, List.setIfInBounds_toArray, List.set_cons_zero, List.set_cons_succ]
          refine wpAnyH_take (i := 11) (v := ?v11_8) rfl (by kernel_rfl) (by kernel_rfl) (by kernel_rfl) (fun _ _ _ h => h) (Or.inl ⟨by rfl, ?y11_8⟩) hHeld ?r11_8
          case y11_8 => (intro w hSw; (try dsimp only at hSw); go_split_ands; go_simp; try with_reducible rfl)
          try simp only [List.getElem_toArray, List.getElem_cons_succ, List.getElem_cons_zero, Act.put, List.setIfInBounds_toArray, List.set_cons_zero, List.set_cons_succ]
          refine wpAnyH_take (i := 12) (v := ?v12_9) rfl (by kernel_rfl) (by kernel_rfl) (by kernel_rfl) (fun _ _ _ h => h) (Or.inl ⟨by rfl, ?y12_9⟩) hHeld ?r12_9
          case y12_9 => (intro w hSw; (try dsimp only at hSw); go_split_ands; go_simp; try with_reducible rfl)
          try simp only [List.getElem_toArray, List.getElem_cons_succ, List.getElem_cons_zero, Act.put, List.setIfInBounds_toArray, List.set_cons_zero, List.set_cons_succ]
          refine wpAnyH_ready (rs := [3, 15]) (by kernel_rfl) (by simp) ?_
          refine AllReadyH.cons rfl (fun K hK => ?_) (AllReadyH.cons rfl (fun K hK => ?_) (AllReadyH.nil))
          · have hHeld' := hHeld
            try dsimp only at hHeld'
            go_split_ands
            go_simp
            refine (O0.out _).mono ?_
            rintro e x1 ⟨rfl, hn⟩
            replace hq := Lib.hid (hq.out.tr hn)
            skip
            clear hn
            refine hK.out _ _ ?_ (fun hHeld => ?_)
            · exact (KX.out _ hq.out)
            clear hK K
            try simp only [List.getElem_toArray, List.getElem_cons_succ, List.getElem_cons_zero, Act.put, List.setIfInBounds_toArray, List.set_cons_zero, List.set_cons_succ]
            refine wpAnyH_ready (rs := [7, 15]) (by kernel_rfl) (by simp) ?_
            refine AllReadyH.cons rfl (fun K hK => ?_) (AllReadyH.cons rfl (fun K hK => ?_) (AllReadyH.nil))
            · have hHeld' := hHeld
              try dsimp only at hHeld'
              go_split_ands
              go_simp
              refine (AR2.out _).mono ?_
              rintro e w' ⟨rfl, rfl⟩
              refine hK.out _ _ ?_ (fun hHeld => ?_)
              · exact (KX.out _ hq.out)
              clear hK K
              try simp only [List.getElem_toArray, List.getElem_cons_succ, List.getElem_cons_zero, Act.put, List.setIfInBounds_toArray, List.set_cons_zero, List.set_cons_succ]
              refine wpAnyH_take (i := 8) (v := ?v8_10) rfl (by kernel_rfl) (by kernel_rfl) (by kernel_rfl) (fun _ _ _ h => h) (Or.inl ⟨by rfl, ?y8_10⟩) hHeld ?r8_10
              case y8_10 => (intro w hSw; (try dsimp only at hSw); go_split_ands; go_simp; try with_reducible rfl)
              try simp only [List.getElem_toArray, List.getElem_cons_succ, List.getElem_cons_zero, Act.put, List.setIfInBounds_toArray, List.set_cons_zero, List.set_cons_succ]
              refine wpAnyH_take (i := 9) (v := ?v9_11) rfl (by kernel_rfl) (by kernel_rfl) (by kernel_rfl) (fun _ _ _ h => h) (Or.inl ⟨by rfl, ?y9_11⟩) hHeld ?r9_11
              case y9_11 => (intro w hSw; (try dsimp only at hSw); go_split_ands; go_simp; try with_reducible rfl)
              try simp only [List.getElem_toArray, List.getElem_cons_succ, List.getElem_cons_zero, Act.put, List.setIfInBounds_toArray, List.set_cons_zero, List.set_cons_succ]
              refine wpAnyH_ready (rs := [13, 15]) (by kernel_rfl) (by simp) ?_
              refine AllReadyH.cons rfl (fun K hK => ?_) (AllReadyH.cons rfl (fun K hK => ?_) (AllReadyH.nil))
              · have hHeld' := hHeld
                try dsimp only at hHeld'
                go_split_ands
                go_simp
                refine (O1.out _).mono ?_
                rintro e x2 ⟨rfl, hn⟩
                replace hq := Lib.hid (hq.out.tr hn)
                skip
                clear hn
                refine hK.out _ _ ?_ (fun hHeld => ?_)
                · exact (KX.out _ hq.out)
                clear hK K
                try simp only [List.getElem_toArray, List.getElem_cons_succ, List.getElem_cons_zero, Act.put, List.setIfInBounds_toArray, List.set_cons_zero, List.set_cons_succ]
                refine wpAnyH_take (i := 14) (v := ?v14_12) rfl (by kernel_rfl) (by kernel_rfl) (by kernel_rfl) (fun _ _ _ h => h) (Or.inl ⟨by rfl, ?y14_12⟩) hHeld ?r14_12
                case y14_12 => (intro w hSw; (try dsimp only at hSw); go_split_ands; go_simp; try with_reducible rfl)
                try simp only [List.getElem_toArray, List.getElem_cons_succ, List.getElem_cons_zero, Act.put, List.setIfInBounds_toArray, List.set_cons_zero, List.set_cons_succ]
                refine wpAnyH_ready (rs := [15]) (by kernel_rfl) (by simp) ?_
                refine AllReadyH.cons rfl (fun K hK => ?_) AllReadyH.nil
                have hHeld' := hHeld
                try dsimp only at hHeld'
                go_split_ands
                go_simp
                refine hK.out _ _ ?_ (fun hHeld => ?_)
                · exact (KX.out _ (hq.out.al (.cells #[.string ⟨#[]⟩, .bool false, .slice none 0 0, .slice none 0 0, .int .i64 0, .int .i64 0, .int .i64 0, .int .i64 0, .string ⟨#[]⟩, .slice none 0 0, .slice none 0 0, .int .i64 0, .int .i64 0, .int .i64 0, .int .i64 0, .int .i64 0, .int .i64 0, .int .i64 0, .int .i64 0] 35)))
                clear hK K
                try simp only [List.getElem_toArray, List.getElem_cons_succ, List.getElem_cons_zero, Act.put, List.setIfInBounds_toArray, List.set_cons_zero, List.set_cons_succ]
                have fy := heap_alloc_new x2 (oRu ⟨#[]⟩ false ⟨#[]⟩ nilS nilS)
                have hn := (Bl.rfl' x2).al (oRu ⟨#[]⟩ false ⟨#[]⟩ nilS nilS)
                obtain ⟨x3, hy⟩ : ∃ X, x2.alloc (.cells #[.string ⟨#[]⟩, .bool false, .slice none 0 0, .slice none 0 0, .int .i64 0, .int .i64 0, .int .i64 0, .int .i64 0, .string ⟨#[]⟩, .slice none 0 0, .slice none 0 0, .int .i64 0, .int .i64 0, .int .i64 0, .int .i64 0, .int .i64 0, .int .i64 0, .int .i64 0, .int .i64 0] 35) = X := ⟨_, rfl⟩
                have hy' : x2.alloc (oRu ⟨#[]⟩ false ⟨#[]⟩ nilS nilS) = x3 := hy
                obtain ⟨py, hp⟩ : ∃ X, x2.heap.size = X := ⟨_, rfl⟩
                have hgy : x0.heap.size ≤ py := by rw [← hp]; exact hq.out.size
                rw [hy', hp] at fy
                rw [hy'] at hn
                rw [hy] at hHeld ⊢
                rw [hp]
                clear hy hy' hp
                replace hq := Lib.hid (hq.out.tr hn)
                clear hn
                replace fy := Lib.hid fy
                refine wpAnyH_ready (rs := [16]) (by kernel_rfl) (by simp) ?_
                refine AllReadyH.cons rfl (fun K hK => ?_) AllReadyH.nil
                refine step_store_ru rfl _ _ rfl py rfl (cRu pp ex px0 nilS nilS) _ rfl fy.out rfl rfl (by kernel_rfl) ?_
                have f9 := setRow_heap x3 py _ (cRu pp ex px0 nilS nilS) _ _ fy.out
                have hb9 : Bl x0 (x3.setRow py (cRu pp ex px0 nilS nilS)) := below_setRow hq.out hgy _
                replace f9 := Lib.hid f9
                replace hb9 := Lib.hid hb9
                refine hK.out _ _ ?_ (fun hHeld => ?_)
                · exact (KX.out _ hb9.out)
                clear hK K
                try simp only [List.getElem_toArray, List.getElem_cons_succ, List.getElem_cons_zero, Act.put, List.setIfInBounds_toArray, List.set_cons_zero, List.set_cons_succ]
                refine wpAnyH_done (by kernel_rfl) ?_ _
                go_wp2_with fail
                go_meet
                case rel => exact ⟨py, rfl, hgy, f9.out, hb9.out⟩
              · have hHeld' := hHeld
                try dsimp only at hHeld'
                go_split_ands
                go_simp
                refine hK.out _ _ ?_ (fun hHeld => ?_)
                · exact (KX.out _ (hq.out.al (.cells #[.string ⟨#[]⟩, .bool false, .slice none 0 0, .slice none 0 0, .int .i64 0, .int .i64 0, .int .i64 0, .int .i64 0, .string ⟨#[]⟩, .slice none 0 0, .slice none 0 0, .int .i64 0, .int .i64 0, .int .i64 0, .int .i64 0, .int .i64 0, .int .i64 0, .int .i64 0, .int .i64 0] 35)))
                clear hK K
                try simp only [List.getElem_toArray, List.getElem_cons_succ, List.getElem_cons_zero, Act.put, List.setIfInBounds_toArray, List.set_cons_zero, List.set_cons_succ]
                have fy := heap_alloc_new x1 (oRu ⟨#[]⟩ false ⟨#[]⟩ nilS nilS)
                have hn := (Bl.rfl' x1).al (oRu ⟨#[]⟩ false ⟨#[]⟩ nilS nilS)
                obtain ⟨x2, hy⟩ : ∃ X, x1.alloc (.cells #[.string ⟨#[]⟩, .bool false, .slice none 0 0, .slice none 0 0, .int .i64 0, .int .i64 0, .int .i64 0, .int .i64 0, .string ⟨#[]⟩, .slice none 0 0, .slice none 0 0, .int .i64 0, .int .i64 0, .int .i64 0, .int .i64 0, .int .i64 0, .int .i64 0, .int .i64 0, .int .i64 0] 35) = X := ⟨_, rfl⟩
                have hy' : x1.alloc (oRu ⟨#[]⟩ false ⟨#[]⟩ nilS nilS) = x2 := hy
                obtain ⟨py, hp⟩ : ∃ X, x1.heap.size = X := ⟨_, rfl⟩
                have hgy : x0.heap.size ≤ py := by rw [← hp]; exact hq.out.size
                rw [hy', hp] at fy
                rw [hy'] at hn
                rw [hy] at hHeld ⊢
                rw [hp]
                clear hy hy' hp
                replace hq := Lib.hid (hq.out.tr hn)
                clear hn
                replace fy := Lib.hid fy
                refine wpAnyH_ready (rs := [13]) (by kernel_rfl) (by simp) ?_
                refine AllReadyH.cons rfl (fun K hK => ?_) AllReadyH.nil
                have hHeld' := hHeld
                try dsimp only at hHeld'
                go_split_ands
                go_simp
                refine (O1.out _).mono ?_
                rintro e x3 ⟨rfl, hn⟩
                replace hq := Lib.hid (hq.out.tr hn)
                replace fy := Lib.hid (blk_bl fy.out hn)
                clear hn
                refine hK.out _ _ ?_ (fun hHeld => ?_)
                · exact (KX.out _ hq.out)
                clear hK K
                try simp only [List.getElem_toArray, List.getElem_cons_succ, List.getElem_cons_zero, Act.put, List.setIfInBounds_toArray, List.set_cons_zero, List.set_cons_succ]
                refine wpAnyH_take (i := 14) (v := ?v14_13) rfl (by kernel_rfl) (by kernel_rfl) (by kernel_rfl) (fun _ _ _ h => h) (Or.inl ⟨by rfl, ?y14_13⟩) hHeld ?r14_13
                case y14_13 => (intro w hSw; (try dsimp only at hSw); go_split_ands; go_simp; try with_reducible rfl)
                try simp only [List.getElem_toArray, List.getElem_cons_succ, List.getElem_cons_zero, Act.put, List.setIfInBounds_toArray, List.set_cons_zero, List.set_cons_succ]
                refine wpAnyH_ready (rs := [16]) (by kernel_rfl) (by simp) ?_
                refine AllReadyH.cons rfl (fun K hK => ?_) AllReadyH.nil
                refine step_store_ru rfl _ _ rfl py rfl (cRu pp ex px0 nilS nilS) _ rfl fy.out rfl rfl (by kernel_rfl) ?_
                have f9 := setRow_heap x3 py _ (cRu pp ex px0 nilS nilS) _ _ fy.out
                have hb9 : Bl x0 (x3.setRow py (cRu pp ex px0 nilS nilS)) := below_setRow hq.out hgy _
                replace f9 := Lib.hid f9
                replace hb9 := Lib.hid hb9
                refine hK.out _ _ ?_ (fun hHeld => ?_)
                · exact (KX.out _ hb9.out)
                clear hK K
                try simp only [List.getElem_toArray, List.getElem_cons_succ, List.getElem_cons_zero, Act.put, List.setIfInBounds_toArray, List.set_cons_zero, List.set_cons_succ]
                refine wpAnyH_done (by kernel_rfl) ?_ _
                go_wp2_with fail
                go_meet
                case rel => exact ⟨py, rfl, hgy, f9.out, hb9.out⟩
            · have hHeld' := hHeld
              try dsimp only at hHeld'
              go_split_ands
              go_simp
              refine hK.out _ _ ?_ (fun hHeld => ?_)
              · exact (KX.out _ (hq.out.al (.cells #[.string ⟨#[]⟩, .bool false, .slice none 0 0, .slice none 0 0, .int .i64 0, .int .i64 0, .int .i64 0, .int .i64 0, .string ⟨#[]⟩, .slice none 0 0, .slice none 0 0, .int .i64 0, .int .i64 0, .int .i64 0, .int .i64 0, .int .i64 0, .int .i64 0, .int .i64 0, .int .i64 0] 35)))
              clear hK K
              try simp only [List.getElem_toArray, List.getElem_cons_succ, List.getElem_cons_zero, Act.put, List.setIfInBounds_toArray, List.set_cons_zero, List.set_cons_succ]
              have fy := heap_alloc_new x1 (oRu ⟨#[]⟩ false ⟨#[]⟩ nilS nilS)
              have hn := (Bl.rfl' x1).al (oRu ⟨#[]⟩ false ⟨#[]⟩ nilS nilS)
              obtain ⟨x2, hy⟩ : ∃ X, x1.alloc (.cells #[.string ⟨#[]⟩, .bool false, .slice none 0 0, .slice none 0 0, .int .i64 0, .int .i64 0, .int .i64 0, .int .i64 0, .string ⟨#[]⟩, .slice none 0 0, .slice none 0 0, .int .i64 0, .int .i64 0, .int .i64 0, .int .i64 0, .int .i64 0, .int .i64 0, .int .i64 0, .int .i64 0] 35) = X := ⟨_, rfl⟩
              have hy' : x1.alloc (oRu ⟨#[]⟩ false ⟨#[]⟩ nilS nilS) = x2 := hy
              obtain ⟨py, hp⟩ : ∃ X, x1.heap.size = X := ⟨_, rfl⟩
              have hgy : x0.heap.size ≤ py := by rw [← hp]; exact hq.out.size
              rw [hy', hp] at fy
              rw [hy'] at hn
              rw [hy] at hHeld ⊢
              rw [hp]
              clear hy hy' hp
              replace hq := Lib.hid (hq.out.tr hn)
              clear hn
              replace fy := Lib.hid fy
              refine wpAnyH_ready (rs := [7]) (by kernel_rfl) (by simp) ?_
              refine AllReadyH.cons rfl (fun K hK => ?_) AllReadyH.nil
              have hHeld' := hHeld
              try dsimp only at hHeld'
              go_split_ands
              go_simp
              refine (AR2.out _).mono ?_
              rintro e w' ⟨rfl, rfl⟩
              refine hK.out _ _ ?_ (fun hHeld => ?_)
              · exact (KX.out _ hq.out)
              clear hK K
              try simp only [List.getElem_toArray, List.getElem_cons_succ, List.getElem_cons_zero, Act.put, List.setIfInBounds_toArray, List.set_cons_zero, List.set_cons_succ]
              refine wpAnyH_take (i := 8) (v := ?v8_14) rfl (by kernel_rfl) (by kernel_rfl) (by kernel_rfl) (fun _ _ _ h => h) (Or.inl ⟨by rfl, ?y8_14⟩) hHeld ?r8_14
              case y8_14 => (intro w hSw; (try dsimp only at hSw); go_split_ands; go_simp; try with_reducible rfl)
              try simp only [List.getElem_toArray, List.getElem_cons_succ, List.getElem_cons_zero, Act.put, List.setIfInBounds_toArray, List.set_cons_zero, List.set_cons_succ]
              refine wpAnyH_take (i := 9) (v := ?v9_15) rfl (by kernel_rfl) (by kernel_rfl) (by kernel_rfl) (fun _ _ _ h => h) (Or.inl ⟨by rfl, ?y9_15⟩) hHeld ?r9_15
              case y9_15 => (intro w hSw; (try dsimp only at hSw); go_split_ands; go_simp; try with_reducible rfl)
              try simp only [List.getElem_toArray, List.getElem_cons_succ, List.getElem_cons_zero, Act.put, List.setIfInBounds_toArray, List.set_cons_zero, List.set_cons_succ]
              refine wpAnyH_ready (rs := [13]) (by kernel_rfl) (by simp) ?_
              refine AllReadyH.cons rfl (fun K hK => ?_) AllReadyH.nil
              have hHeld' := hHeld
              try dsimp only at hHeld'
              go_split_ands
              go_simp
              refine (O1.out _).mono ?_
              rintro e x3 ⟨rfl, hn⟩
              replace hq := Lib.hid (hq.out.tr hn)
              replace fy := Lib.hid (blk_bl fy.out hn)
              clear hn
              refine hK.out _ _ ?_ (fun hHeld => ?_)
              · exact (KX.out _ hq.out)
              clear hK K
              try simp only [List.getElem_toArray, List.getElem_cons_succ, List.getElem_cons_zero, Act.put, List.setIfInBounds_toArray, List.set_cons_zero, List.set_cons_succ]
              refine wpAnyH_take (i := 14) (v := ?v14_16) rfl (by kernel_rfl) (by kernel_rfl) (by kernel_rfl) (fun _ _ _ h => h) (Or.inl ⟨by rfl, ?y14_16⟩) hHeld ?r14_16
              case y14_16 => (intro w hSw; (try dsimp only at hSw); go_split_ands; go_simp; try with_reducible rfl)
              try simp only [List.getElem_toArray, List.getElem_cons_succ, List.getElem_cons_zero, Act.put, List.setIfInBounds_toArray, List.set_cons_zero, List.set_cons_succ]
              refine wpAnyH_ready (rs := [16]) (by kernel_rfl) (by simp) ?_
              refine AllReadyH.cons rfl (fun K hK => ?_) AllReadyH.nil
              refine step_store_ru rfl _ _ rfl py rfl (cRu pp ex px0 nilS nilS) _ rfl fy.out rfl rfl (by kernel_rfl) ?_
              have f9 := setRow_heap x3 py _ (cRu pp ex px0 nilS nilS) _ _ fy.out
              have hb9 : Bl x0 (x3.setRow py (cRu pp ex px0 nilS nilS)) := below_setRow hq.out hgy _
              replace f9 := Lib.hid f9
              replace hb9 := Lib.hid hb9
              refine hK.out _ _ ?_ (fun hHeld => ?_)
              · exact (KX.out _ hb9.out)
              clear hK K
              try simp only [List.getElem_toArray, List.getElem_cons_succ, List.getElem_cons_zero, Act.put, List.setIfInBounds_toArray, List.set_cons_zero, List.set_cons_succ]
              refine wpAnyH_done (by kernel_rfl) ?_ _
              go_wp2_with fail
              go_meet
              case rel => exact ⟨py, rfl, hgy, f9.out, hb9.out⟩
          · have hHeld' := hHeld
            try dsimp only at hHeld'
            go_split_ands
            go_simp
            refine hK.out _ _ ?_ (fun hHeld => ?_)
            · exact (KX.out _ (hq.out.al (.cells #[.string ⟨#[]⟩, .bool false, .slice none 0 0, .slice none 0 0, .int .i64 0, .int .i64 0, .int .i64 0, .int .i64 0, .string ⟨#[]⟩, .slice none 0 0, .slice none 0 0, .int .i64 0, .int .i64 0, .int .i64 0, .int .i64 0, .int .i64 0, .int .i64 0, .int .i64 0, .int .i64 0] 35)))
            clear hK K
            try simp only [List.getElem_toArray, List.getElem_cons_succ, List.getElem_cons_zero, Act.put, List.setIfInBounds_toArray, List.set_cons_zero, List.set_cons_succ]
            have fy := heap_alloc_new x0 (oRu ⟨#[]⟩ false ⟨#[]⟩ nilS nilS)
            have hn := (Bl.rfl' x0).al (oRu ⟨#[]⟩ false ⟨#[]⟩ nilS nilS)
            obtain ⟨x1, hy⟩ : ∃ X, x0.alloc (.cells #[.string ⟨#[]⟩, .bool false, .slice none 0 0, .slice none 0 0, .int .i64 0, .int .i64 0, .int .i64 0, .int .i64 0, .string ⟨#[]⟩, .slice none 0 0, .slice none 0 0, .int .i64 0, .int .i64 0, .int .i64 0, .int .i64 0, .int .i64 0, .int .i64 0, .int .i64 0, .int .i64 0] 35) = X := ⟨_, rfl⟩
            have hy' : x0.alloc (oRu ⟨#[]⟩ false ⟨#[]⟩ nilS nilS) = x1 := hy
            obtain ⟨py, hp⟩ : ∃ X, x0.heap.size = X := ⟨_, rfl⟩
            have hgy : x0.heap.size ≤ py := by rw [← hp]; exact hq.out.size
            rw [hy', hp] at fy
            rw [hy'] at hn
            rw [hy] at hHeld ⊢
            rw [hp]
            clear hy hy' hp
            replace hq := Lib.hid (hq.out.tr hn)
            clear hn
            replace fy := Lib.hid fy
            refine wpAnyH_ready (rs := [3]) (by kernel_rfl) (by simp) ?_
            refine AllReadyH.cons rfl (fun K hK => ?_) AllReadyH.nil
            have hHeld' := hHeld
            try dsimp only at hHeld'
            go_split_ands
            go_simp
            refine (O0.out _).mono ?_
            rintro e x2 ⟨rfl, hn⟩
            replace hq := Lib.hid (hq.out.tr hn)
            replace fy := Lib.hid (blk_bl fy.out hn)
            clear hn
            refine hK.out _ _ ?_ (fun hHeld => ?_)
            · exact (KX.out _ hq.out)
            clear hK K
            try simp only [List.getElem_toArray, List.getElem_cons_succ, List.getElem_cons_zero, Act.put, List.setIfInBounds_toArray, List.set_cons_zero, List.set_cons_succ]
            refine wpAnyH_ready (rs := [7]) (by kernel_rfl) (by simp) ?_
            refine AllReadyH.cons rfl (fun K hK => ?_) AllReadyH.nil
            have hHeld' := hHeld
            try dsimp only at hHeld'
            go_split_ands
            go_simp
            refine (AR2.out _).mono ?_
            rintro e w' ⟨rfl, rfl⟩
            refine hK.out _ _ ?_ (fun hHeld => ?_)
            · exact (KX.out _ hq.out)
            clear hK K
            try simp only [List.getElem_toArray, List.getElem_cons_succ, List.getElem_cons_zero, Act.put, List.setIfInBounds_toArray, List.set_cons_zero, List.set_cons_succ]
            refine wpAnyH_take (i := 8) (v := ?v8_17) rfl (by kernel_rfl) (by kernel_rfl) (by kernel_rfl) (fun _ _ _ h => h) (Or.inl ⟨by rfl, ?y8_17⟩) hHeld ?r8_17
            case y8_17 => (intro w hSw; (try dsimp only at hSw); go_split_ands; go_simp; try with_reducible rfl)
            try simp only [List.getElem_toArray, List.getElem_cons_succ, List.getElem_cons_zero, Act.put, List.setIfInBounds_toArray, List.set_cons_zero, List.set_cons_succ]
            refine wpAnyH_take (i := 9) (v := ?v9_18) rfl (by kernel_rfl) (by kernel_rfl) (by kernel_rfl) (fun _ _ _ h => h) (Or.inl ⟨by rfl, ?y9_18⟩) hHeld ?r9_18
            case y9_18 => (intro w hSw; (try dsimp only at hSw); go_split_ands; go_simp; try with_reducible rfl)
            try simp only [List.getElem_toArray, List.getElem_cons_succ, List.getElem_cons_zero, Act.put, List.setIfInBounds_toArray, List.set_cons_zero, List.set_cons_succ]
            refine wpAnyH_ready (rs := [13]) (by kernel_rfl) (by simp) ?_
            refine AllReadyH.cons rfl (fun K hK => ?_) AllReadyH.nil
            have hHeld' := hHeld
            try dsimp only at hHeld'
            go_split_ands
            go_simp
            refine (O1.out _).mono ?_
            rintro e x3 ⟨rfl, hn⟩
            replace hq := Lib.hid (hq.out.tr hn)
            replace fy := Lib.hid (blk_bl fy.out hn)
            clear hn
            refine hK.out _ _ ?_ (fun hHeld => ?_)
            · exact (KX.out _ hq.out)
            clear hK K
            try simp only [List.getElem_toArray, List.getElem_cons_succ, List.getElem_cons_zero, Act.put, List.setIfInBounds_toArray, List.set_cons_zero, List.set_cons_succ]
            refine wpAnyH_take (i := 14) (v := ?v14_19) rfl (by kernel_rfl) (by kernel_rfl) (by kernel_rfl) (fun _ _ _ h => h) (Or.inl ⟨by rfl, ?y14_19⟩) hHeld ?r14_19
            case y14_19 => (intro w hSw; (try dsimp only at hSw); go_split_ands; go_simp; try with_reducible rfl)
            try simp only [List.getElem_toArray, List.getElem_cons_succ, List.getElem_cons_zero, Act.put, List.setIfInBounds_toArray, List.set_cons_zero, List.set_cons_succ]
            refine wpAnyH_ready (rs := [16]) (by kernel_rfl) (by simp) ?_
            refine AllReadyH.cons rfl (fun K hK => ?_) AllReadyH.nil
            refine step_store_ru rfl _ _ rfl py rfl (cRu pp ex px0 nilS nilS) _ rfl fy.out rfl rfl (by kernel_rfl) ?_
            have f9 := setRow_heap x3 py _ (cRu pp ex px0 nilS nilS) _ _ fy.out
            have hb9 : Bl x0 (x3.setRow py (cRu pp ex px0 nilS nilS)) := below_setRow hq.out hgy _
            replace f9 := Lib.hid f9
            replace hb9 := Lib.hid hb9
            refine hK.out _ _ ?_ (fun hHeld => ?_)
            · exact (KX.out _ hb9.out)
            clear hK K
            try simp only [List.getElem_toArray, List.getElem_cons_succ, List.getElem_cons_zero, Act.put, List.setIfInBounds_toArray, List.set_cons_zero, List.set_cons_succ]
            refine wpAnyH_done (by kernel_rfl) ?_ _
            go_wp2_with fail
            go_meet
            case rel => exact ⟨py, rfl, hgy, f9.out, hb9.out⟩
        case rest =>
          obtain ⟨py, rfl, hgy, hy, hbc⟩ := hcut
          have t1 := hb.out.tr (g0.tr hbc)
          have hpy : w.heap.size ≤ py := Nat.le_trans (hb.out.tr g0).size hgy
          have n3 := cell_at (blk_bl hn4.out (g0.tr hbc)) 3
          simp only [List.getElem?_toArray, List.getElem?_cons_succ, List.getElem?_cons_zero] at n3
          have h0c := blk_bl h0.out (g0.tr hbc)
          have hrp : r0 < py := Nat.lt_of_lt_of_le (lt_of_block (blk_bl h0.out g0)) hgy
          clear hq KX bR hn hn4 h0 hb O0 O1 AR2 hbc g0 hx0 hdec hgy
          replace t1 := Lib.hid t1
          replace hpy := Lib.hid hpy
          replace h0c := Lib.hid h0c
          replace hrp := Lib.hid hrp
          replace hy := Lib.hid hy
          go_upto_if 44 with (with_reducible refine (AR3.out _).mono ?_; rintro e w' ⟨rfl, rfl⟩)
          go_cut [5] from 40 to 45 (fun q wx => q = .pointer (some ⟨py, 0, none⟩) ∧ wx.heap[py]? = some (oRu pp ex RX nilS nilS) ∧ wx.heap[r0]? = some (oRu ⟨#[]⟩ false ⟨#[]⟩ nilS nilS) ∧ Bl w wx)
          case first =>
            have hrx := hRX.out
            by_cases h5 : around (gz 3) 6 = 5
            · have e5 : (around (gz 3) 6 == 5) = true := beq_iff_eq.2 h5
              rw [if_pos h5] at hrx
              have c8 := cell_at hy.out 8
              have f8 := free_at hy.out 8
              have s8 := set_at 8 (S ⟨#[]⟩) hy.out
              simp only [List.setIfInBounds_toArray, List.set_cons_zero, List.set_cons_succ] at s8
              simp only [List.getElem?_toArray, List.getElem?_cons_succ, List.getElem?_cons_zero] at c8
              have g8 := gby_set wc py 8 (S ⟨#[]⟩)
              have h08 := (g8.block r0 (lt_of_block h0c.out) (fun e => by cases e; have := hrp.out; omega)).trans h0c.out
              have hb8 := t1.out.gp g8 hpy.out
              obtain ⟨w8, hw8⟩ : ∃ X, wc.setCell ⟨py, 8, none⟩ (S ⟨#[]⟩) = X := ⟨_, rfl⟩
              rw [hw8] at s8 h08 hb8
              clear g8 h5
              replace s8 := Lib.hid s8
              replace h08 := Lib.hid h08
              replace hb8 := Lib.hid hb8
              replace hrx := Lib.hid hrx
              go_wp2_with fail
              go_meet
              case rel => exact ⟨rfl, by rw [← hrx.out]; exact s8.out, h08.out, hb8.out⟩
            · have e5 : (around (gz 3) 6 == 5) = false := beq_eq_false_iff_ne.2 h5
              rw [if_neg h5, hpx0.out] at hrx
              clear h5
              replace hrx := Lib.hid hrx
              go_wp2_with fail
              go_meet
              case rel => exact ⟨rfl, by rw [← hrx.out]; exact hy.out, h0c.out, t1.out⟩
          case rest =>
            obtain ⟨rfl, hy2, h02, hb2⟩ := hcut
            obtain ⟨j, hj⟩ : ∃ j, min N 4 = j := ⟨_, rfl⟩
            have hjN : j ≤ N := by omega
            have hjc : j ≤ cap := by omega
            have hmin : min (N : Int) 4 = (j : Int) := by omega
            have RJ := Lib.hid (fun w' (hb : Bl w w') => (RD.out w' hb).drop j (by rw [hN'.out]; exact hjN))
            have R2 := RJ.out wc hb2
            obtain ⟨adp, hadp⟩ : ∃ x, (if cap = j then a else Option.map (fun x => x.add j) a) = x := ⟨_, rfl⟩
            rw [hadp] at R2
            clear hj n3 AR3 hRX hzz
            replace R2 := Lib.hid R2
            replace hy2 := Lib.hid hy2
            replace h02 := Lib.hid h02
            replace hb2 := Lib.hid hb2
            obtain ⟨M, hM⟩ : ∃ M, N - j = M := ⟨_, rfl⟩
            obtain ⟨cap2, hcap2⟩ : ∃ c, cap - j = c := ⟨_, rfl⟩
            have hlR : (z0.drop j).length = M := by rw [List.length_drop, hN'.out]; exact hM
            have okR : i64ok (z0.drop j) := fun x hx => hz.out x (List.mem_of_mem_drop hx)
            obtain ⟨ZR, hZR⟩ : ∃ z_, (z0.drop j) = z_ := ⟨_, rfl⟩
            rw [hZR] at hlR okR
            replace R2 := R2.out
            rw [hM, hcap2, hZR] at R2
            have hadp2 := Lib.hid hadp; have hM2 := Lib.hid hM; have hcap22 := Lib.hid hcap2
            replace hZR := Lib.hid hZR
            have TI : Calls Try.prog 28 #[.slice adp M cap2, I 4] wc fun e w' => ∃ x, e = .returned x ∧ w'.ownsRow wc.heap.size 3 1 x (min ZR.length 4) ((ZR.take (min ZR.length 4)).map I) ∧ Bl wc w' := takeI_any _ ZR 4 wc R2 (by omega)
            replace R2 := Lib.hid R2
            replace TI := Lib.hid TI
            replace okR := Lib.hid okR
            replace hlR := Lib.hid hlR
            go_upto_region 10 with fail
            go_wp2_with fail
            with_reducible refine (TI.out).mono ?_
            rintro e w5 ⟨x5, rfl, hO5, hn5⟩
            have hl5 : (ZR.take (min ZR.length 4)).length = min ZR.length 4 := by rw [List.length_take]; omega
            have hI5 := ints_ownR (L := ZR.take (min ZR.length 4)) (by rw [hl5]; exact hO5)
            have ok5 : i64ok (ZR.take (min ZR.length 4)) := fun x hx => okR.out x (List.mem_of_mem_take hx)
            have HM := heads_mk _ _ _ hI5 ok5 (by rw [hl5]; unfold maxLen; omega)
            have hb5 := hb2.out.tr hn5
            have hy5 := blk_bl hy2.out hn5
            have h05 := blk_bl h02.out hn5
            have R5 := R2.out.bl hn5
            obtain ⟨xa, xg, xc, xr, rfl, -⟩ := own_blk hO5 (by decide)
            clear hO5 hn5 hl5 hI5 ok5 hy2 h02 hb2 R2 TI
            replace HM := Lib.hid HM
            replace hb5 := Lib.hid hb5
            replace hy5 := Lib.hid hy5
            replace h05 := Lib.hid h05
            replace R5 := Lib.hid R5
            go_wp2_with fail
            with_reducible refine (HM.out).mono ?_
            rintro e w6 ⟨sv, rfl, hS, hn6⟩
            have hH6 := heads_own hS
            obtain ⟨sa, sg, sc, rfl, -⟩ := OwnB.row hS (by decide)
            have okHS : OkH (headsF (ZR.take (min ZR.length 4)) (min (ZR.take (min ZR.length 4)).length 12)) := ok_heads _ _
            obtain ⟨HS, hHS⟩ : ∃ z_, (headsF (ZR.take (min ZR.length 4)) (min (ZR.take (min ZR.length 4)).length 12)) = z_ := ⟨_, rfl⟩
            rw [hHS] at hH6 hS okHS
            replace okHS := Lib.hid okHS
            rw [hHS]
            have hb6 := hb5.out.tr hn6
            have hy6 := blk_bl hy5.out hn6
            have h06 := blk_bl h05.out hn6
            have R6 := R5.out.bl hn6
            have c9 := cell_at hy6 9
            have f9 := free_at hy6 9
            have s9 := set_at 9 (.slice sa HS.length sc) hy6
            simp only [List.setIfInBounds_toArray, List.set_cons_zero, List.set_cons_succ] at s9
            simp only [List.getElem?_toArray, List.getElem?_cons_succ, List.getElem?_cons_zero] at c9
            have g9 := gby_set w6 py 9 (.slice sa HS.length sc)
            have lpy := lt_of_block hy5.out
            have lr0 := lt_of_block h05.out
            have hS7 := OwnB.gby hS g9 lpy
            have h07 := (g9.block r0 (lt_of_block h06) (fun e => by cases e; have := hrp.out; omega)).trans h06
            have hb7 := hb6.gp g9 hpy.out
            obtain ⟨w7, hw7⟩ : ∃ X, w6.setCell ⟨py, 9, none⟩ (.slice sa HS.length sc) = X := ⟨_, rfl⟩
            rw [hw7] at s9 hS7 h07 hb7
            have R7 := RJ.out w7 hb7
            rw [hadp2.out, hM2.out, hcap22.out, hZR.out] at R7
            obtain ⟨j2, hj2⟩ : ∃ j, min M 4 = j := ⟨_, rfl⟩
            have hj2M : j2 ≤ M := by omega
            have hmin2 : min (M : Int) 4 = (j2 : Int) := by omega
            have hMc : M ≤ cap2 := by have := hM2.out; have := hcap22.out; omega
            have hj2c : j2 ≤ cap2 := by omega
            have R8 := R7.drop j2 (by rw [hlR.out]; exact hj2M)
            obtain ⟨adq, hadq⟩ : ∃ x, (if cap2 = j2 then adp else Option.map (fun x => x.add j2) adp) = x := ⟨_, rfl⟩
            rw [hadq] at R8
            have okN : i64ok (ZR.drop j2) := fun x hx => okR.out x (List.mem_of_mem_drop hx)
            have hlN : (ZR.drop j2).length ≤ maxLen := by rw [List.length_drop, hlR.out]; unfold maxLen; omega
            have NM := names_mk _ _ _ R8.at okN hlN
            have hy7 : w7.heap[py]? = some (oRu pp ex RX (.slice sa HS.length sc) nilS) := s9
            clear g9 R7 R8 okN hlN hS hH6 hy6 h06 hb6 hb5 hy5 h05 R6 R5 s9 HM hj2 hn6
            replace NM := Lib.hid NM
            replace hS7 := Lib.hid hS7
            replace h07 := Lib.hid h07
            replace hb7 := Lib.hid hb7
            replace hy7 := Lib.hid hy7
            replace lpy := Lib.hid lpy
            replace lr0 := Lib.hid lr0
            go_wp2_with fail
            with_reducible refine (NM.out).mono ?_
            rintro e w8 ⟨dv, rfl, hD, hn8⟩
            have hT8 := texts_own hD
            obtain ⟨da, dg, dc, rfl, -⟩ := OwnB.row hD (by decide)
            have lDS : (namesF (ZR.drop j2) (min (ZR.drop j2).length 6)).length ≤ 6 := by rw [namesF_len]; omega
            obtain ⟨DS, hDS⟩ : ∃ z_, (namesF (ZR.drop j2) (min (ZR.drop j2).length 6)) = z_ := ⟨_, rfl⟩
            rw [hDS] at hT8 hD lDS
            replace lDS := Lib.hid lDS
            rw [hDS]
            have hb8 := hb7.out.tr hn8
            have hy8 := blk_bl hy7.out hn8
            have h08 := blk_bl h07.out hn8
            have hS8 := hS7.out.bl hn8
            have c10 := cell_at hy8 10
            have f10 := free_at hy8 10
            have s10 := set_at 10 (.slice da DS.length dc) hy8
            simp only [List.setIfInBounds_toArray, List.set_cons_zero, List.set_cons_succ] at s10
            simp only [List.getElem?_toArray, List.getElem?_cons_succ, List.getElem?_cons_zero] at c10
            have g10 := gby_set w8 py 10 (.slice da DS.length dc)
            have lpy8 := lt_of_block hy8
            have hS9 := OwnB.gby hS8 g10 lpy.out
            have hD9 := OwnB.gby hD g10 (lt_of_block hy7.out)
            have h09 := (g10.block r0 (lt_of_block h08) (fun e => by cases e; have := hrp.out; omega)).trans h08
            have hb9 := hb8.gp g10 hpy.out
            obtain ⟨w9, hw9⟩ : ∃ X, w8.setCell ⟨py, 10, none⟩ (.slice da DS.length dc) = X := ⟨_, rfl⟩
            rw [hw9] at s10 hS9 hD9 h09 hb9
            have hy9 : w9.heap[py]? = some (oRu pp ex RX (.slice sa HS.length sc) (.slice da DS.length dc)) := s10
            have lr7 := lt_of_block h07.out
            clear g10 hy8 h08 hb8 hS8 hD hT8 s10 hn8
            replace hS9 := Lib.hid hS9
            replace hD9 := Lib.hid hD9
            replace h09 := Lib.hid h09
            replace hb9 := Lib.hid hb9
            replace hy9 := Lib.hid hy9
            replace lr7 := Lib.hid lr7
            rw [e0'.out]
            go_upto_region 12 with fail
            go_upto_region 99 with first | (refine wpList_load_ru _ py _ _ _ _ _ hy9.out rfl rfl rfl ?_) | (refine wpList_store_row rfl 35 _ _ rfl r0 _ rfl rfl 35 _ h09.out sizeRu rfl (by kernel_rfl) ?_)
            have gr := gby_row w9 r0 (cRu pp ex RX (.slice sa HS.length sc) (.slice da DS.length dc))
            have hSZ := heads_own (OwnB.gby hS9.out gr lr0.out)
            have hDZ := texts_own (OwnB.gby hD9.out gr lr7.out)
            have f0 := setRow_heap w9 r0 _ (cRu pp ex RX (.slice sa HS.length sc) (.slice da DS.length dc)) _ _ h09.out
            have hbZ := below_setRow hb9.out (show w.heap.size ≤ r0 by rw [e0'.out]; exact Nat.le_refl _) (cRu pp ex RX (.slice sa HS.length sc) (.slice da DS.length dc))
            obtain ⟨wZ, hwZ⟩ : ∃ X, w9.setRow r0 (cRu pp ex RX (.slice sa HS.length sc) (.slice da DS.length dc)) = X := ⟨_, rfl⟩
            rw [hwZ] at hSZ hDZ f0 hbZ
            have hpz : (ofF (gz 0)) = pp := hpp.out
            have hez : decide (around (gz 2) 4 = 1) = ex := hex.out
            rw [hpz, hez]
            rw [show w9.setRow r0 #[S pp, Value.bool ex, Value.slice none 0 0, Value.slice none 0 0, I 0, I 0, I 0, I 0, S RX, Value.slice sa HS.length sc, Value.slice da DS.length dc, I 0, I 0, I 0, I 0, I 0, I 0, I 0, I 0] = wZ from hwZ]
            clear gr hS9 hD9
            refine bodyPost_ret (results_cell_row rfl _ _ r0 _ _ _ _ rfl f0 Try.underlying35 rfl sizeRu) rfl ?_
            exact ⟨_, _, _, _, rfl, hSZ, hDZ, hbZ, okHS.out, lDS.out⟩
      · have c1 : decide ((k : Int) < 4) = false := decide_eq_false (by omega)
        have c2 : decide (k < 4) = false := decide_eq_false hk
        clear hlt d5 hk hkm hne hout
        replace hn := Lib.hid hn
        replace hn4 := Lib.hid hn4
        replace h0 := Lib.hid h0
        replace hb := Lib.hid hb
        replace hex := Lib.hid hex
        replace hpp := Lib.hid hpp
        replace hpx0 := Lib.hid hpx0
        replace ha2 := Lib.hid ha2
        go_upto_region 6 with fail
        go_cut [5] from 25 to 39 (fun q wx => ∃ py, q = .pointer (some ⟨py, 0, none⟩) ∧ x0.heap.size ≤ py ∧ wx.heap[py]? = some (oRu pp ex px0 nilS nilS) ∧ Bl x0 wx)
        case first =>
          refine wp_region_held_drew (S := fun w' => w'.cell? ⟨rn, 0, none⟩ = some (I (gz 0)) ∧ w'.cell? ⟨rn, 1, none⟩ = some (I (gz 1)) ∧ w'.cell? ⟨rn, 2, none⟩ = some (I (gz 2))) (by kernel_rfl) ?_ (fun hHeld => ?_)
          · exact KX.out _ (by rw [hx0]; exact hq.out)
          rw [hx0] at hHeld ⊢
          clear hx0
          refine wpAnyH_take (i := 0) (v := ?v0_20) rfl (by kernel_rfl) (by kernel_rfl) (by kernel_rfl) (fun _ _ _ h => h) (Or.inl ⟨by rfl, ?y0_20⟩) hHeld ?r0_20
          case y0_20 => (intro w hSw; (try dsimp only at hSw); go_split_ands; go_simp; try with_reducible rfl)
          try simp only [List.getElem_toArray, List.getElem_cons_succ, List.getElem_cons_zero, Act.put, List.setIfInBounds_toArray, List.set_cons_zero, List.set_cons_succ]
          refine wpAnyH_take (i := 1) (v := ?v1_21) rfl (by kernel_rfl) (by kernel_rfl) (by kernel_rfl) (fun _ _ _ h => h) (Or.inl ⟨by rfl, ?y1_21⟩) hHeld ?r1_21
          case y1_21 => (intro w hSw; (try dsimp only at hSw); go_split_ands; go_simp; try with_reducible rfl)
          try simp only [List.getElem_toArray, List.getElem_cons_succ, List.getElem_cons_zero, Act.put, List.setIfInBounds_toArray, List.set_cons_zero, List.set_cons_succ]
          refine wpAnyH_take (i := 2) (v := ?v2_22) rfl (by kernel_rfl) (by kernel_rfl) (by kernel_rfl) (fun _ _ _ h => h) (Or.inl ⟨by rfl, ?y2_22⟩) hHeld ?r2_22
          case y2_22 => (intro w hSw; (try dsimp only at hSw); go_split_ands; go_simp; try with_reducible rfl)
          try simp only [List.getElem_toArray, List.getElem_cons_succ, List.getElem_cons_zero, Act.put, List.setIfInBounds_toArray, List.set_cons_zero, List.set_cons_succ]
          refine wpAnyH_take (i := 4) (v := ?v4_23) rfl (by kernel_rfl) (by kernel_rfl) (by kernel_rfl) (fun _ _ _ h => h) (Or.inl ⟨by rfl, ?y4_23⟩) hHeld ?r4_23
          case y4_23 => (intro w hSw; (try dsimp only at hSw); go_split_ands; go_simp; try with_reducible rfl)
          try simp only [List.getElem_toArray, List.getElem_cons_succ, List.getElem_cons_zero, Act.put, List.setIfInBounds_toArray, List.set_cons_zero, List.set_cons_succ]
          refine wpAnyH_take (i := 5) (v := ?v5_24) rfl (by kernel_rfl) (by kernel_rfl) (by kernel_rfl) (fun _ _ _ h => h) (Or.inl ⟨by rfl, ?y5_24⟩) hHeld ?r5_24
          case y5_24 => (intro w hSw; (try dsimp only at hSw); go_split_ands; go_simp; try with_reducible rfl)
          try simp only [List.getElem_toArray, List.getElem_cons_succ, List.getElem_cons_zero, Act.put, List.setIfInBounds_toArray, List.set_cons_zero, List.set_cons_succ]
          refine wpAnyH_take (i := 6) (v := ?v6_25) rfl (by kernel_rfl) (by kernel_rfl) (by kernel_rfl) (fun _ _ _ h => h) (Or.inl ⟨by rfl, ?y6_25⟩) hHeld ?r6_25
          case y6_25 => (intro w hSw; (try dsimp only at hSw); go_split_ands; go_simp; try with_reducible rfl)
          try simp only [List.getElem_toArray, List.getElem_cons_succ, List.getElem_cons_zero, Act.put, List.setIfInBounds_toArray, List.set_cons_zero, List.set_cons_succ]
          refine wpAnyH_take (i := 10) (v := ?v10_26) rfl (by kernel_rfl) (by kernel_rfl) (by kernel_rfl) (fun _ _ _ h => h) (Or.inl ⟨by rfl, ?y10_26⟩) hHeld ?r10_26
          case y10_26 => (intro w hSw; (try dsimp only at hSw); go_split_ands; go_simp; try with_reducible rfl)
          try simp only [List.getElem_toArray, List.getElem_cons_succ, List.getElem_cons_zero, Act.put, List.setIfInBounds_toArray, List.set_cons_zero, List.set_cons_succ]
          refine wpAnyH_take (i := 11) (v := ?v11_27) rfl (by kernel_rfl) (by kernel_rfl) (by kernel_rfl) (fun _ _ _ h => h) (Or.inl ⟨by rfl, ?y11_27⟩) hHeld ?r11_27
          case y11_27 => (intro w hSw; (try dsimp only at hSw); go_split_ands; go_simp; try with_reducible rfl)
          try simp only [List.getElem_toArray, List.getElem_cons_succ, List.getElem_cons_zero, Act.put, List.setIfInBounds_toArray, List.set_cons_zero, List.set_cons_succ]
          refine wpAnyH_take (i := 12) (v := ?v12_28) rfl (by kernel_rfl) (by kernel_rfl) (by kernel_rfl) (fun _ _ _ h => h) (Or.inl ⟨by rfl, ?y12_28⟩) hHeld ?r12_28
          case y12_28 => (intro w hSw; (try dsimp only at hSw); go_split_ands; go_simp; try with_reducible rfl)
          try simp only [List.getElem_toArray, List.getElem_cons_succ, List.getElem_cons_zero, Act.put, List.setIfInBounds_toArray, List.set_cons_zero, List.set_cons_succ]
          refine wpAnyH_ready (rs := [3, 15]) (by kernel_rfl) (by simp) ?_
          refine AllReadyH.cons rfl (fun K hK => ?_) (AllReadyH.cons rfl (fun K hK => ?_) (AllReadyH.nil))
          · have hHeld' := hHeld
            try dsimp only at hHeld'
            go_split_ands
            go_simp
            refine (O0.out _).mono ?_
            rintro e x1 ⟨rfl, hn⟩
            replace hq := Lib.hid (hq.out.tr hn)
            skip
            clear hn
            refine hK.out _ _ ?_ (fun hHeld => ?_)
            · exact (KX.out _ hq.out)
            clear hK K
            try simp only [List.getElem_toArray, List.getElem_cons_succ, List.getElem_cons_zero, Act.put, List.setIfInBounds_toArray, List.set_cons_zero, List.set_cons_succ]
            refine wpAnyH_ready (rs := [7, 15]) (by kernel_rfl) (by simp) ?_
            refine AllReadyH.cons rfl (fun K hK => ?_) (AllReadyH.cons rfl (fun K hK => ?_) (AllReadyH.nil))
            · have hHeld' := hHeld
              try dsimp only at hHeld'
              go_split_ands
              go_simp
              refine (AR2.out _).mono ?_
              rintro e w' ⟨rfl, rfl⟩
              refine hK.out _ _ ?_ (fun hHeld => ?_)
              · exact (KX.out _ hq.out)
              clear hK K
              try simp only [List.getElem_toArray, List.getElem_cons_succ, List.getElem_cons_zero, Act.put, List.setIfInBounds_toArray, List.set_cons_zero, List.set_cons_succ]
              refine wpAnyH_take (i := 8) (v := ?v8_29) rfl (by kernel_rfl) (by kernel_rfl) (by kernel_rfl) (fun _ _ _ h => h) (Or.inl ⟨by rfl, ?y8_29⟩) hHeld ?r8_29
              case y8_29 => (intro w hSw; (try dsimp only at hSw); go_split_ands; go_simp; try with_reducible rfl)
              try simp only [List.getElem_toArray, List.getElem_cons_succ, List.getElem_cons_zero, Act.put, List.setIfInBounds_toArray, List.set_cons_zero, List.set_cons_succ]
              refine wpAnyH_take (i := 9) (v := ?v9_30) rfl (by kernel_rfl) (by kernel_rfl) (by kernel_rfl) (fun _ _ _ h => h) (Or.inl ⟨by rfl, ?y9_30⟩) hHeld ?r9_30
              case y9_30 => (intro w hSw; (try dsimp only at hSw); go_split_ands; go_simp; try with_reducible rfl)
              try simp only [List.getElem_toArray, List.getElem_cons_succ, List.getElem_cons_zero, Act.put, List.setIfInBounds_toArray, List.set_cons_zero, List.set_cons_succ]
              refine wpAnyH_ready (rs := [13, 15]) (by kernel_rfl) (by simp) ?_
              refine AllReadyH.cons rfl (fun K hK => ?_) (AllReadyH.cons rfl (fun K hK => ?_) (AllReadyH.nil))
              · have hHeld' := hHeld
                try dsimp only at hHeld'
                go_split_ands
                go_simp
                refine (O1.out _).mono ?_
                rintro e x2 ⟨rfl, hn⟩
                replace hq := Lib.hid (hq.out.tr hn)
                skip
                clear hn
                refine hK.out _ _ ?_ (fun hHeld => ?_)
                · exact (KX.out _ hq.out)
                clear hK K
                try simp only [List.getElem_toArray, List.getElem_cons_succ, List.getElem_cons_zero, Act.put, List.setIfInBounds_toArray, List.set_cons_zero, List.set_cons_succ]
                refine wpAnyH_take (i := 14) (v := ?v14_31) rfl (by kernel_rfl) (by kernel_rfl) (by kernel_rfl) (fun _ _ _ h => h) (Or.inl ⟨by rfl, ?y14_31⟩) hHeld ?r14_31
                case y14_31 => (intro w hSw; (try dsimp only at hSw); go_split_ands; go_simp; try with_reducible rfl)
                try simp only [List.getElem_toArray, List.getElem_cons_succ, List.getElem_cons_zero, Act.put, List.setIfInBounds_toArray, List.set_cons_zero, List.set_cons_succ]
                refine wpAnyH_ready (rs := [15]) (by kernel_rfl) (by simp) ?_
                refine AllReadyH.cons rfl (fun K hK => ?_) AllReadyH.nil
                have hHeld' := hHeld
                try dsimp only at hHeld'
                go_split_ands
                go_simp
                refine hK.out _ _ ?_ (fun hHeld => ?_)
                · exact (KX.out _ (hq.out.al (.cells #[.string ⟨#[]⟩, .bool false, .slice none 0 0, .slice none 0 0, .int .i64 0, .int .i64 0, .int .i64 0, .int .i64 0, .string ⟨#[]⟩, .slice none 0 0, .slice none 0 0, .int .i64 0, .int .i64 0, .int .i64 0, .int .i64 0, .int .i64 0, .int .i64 0, .int .i64 0, .int .i64 0] 35)))
                clear hK K
                try simp only [List.getElem_toArray, List.getElem_cons_succ, List.getElem_cons_zero, Act.put, List.setIfInBounds_toArray, List.set_cons_zero, List.set_cons_succ]
                have fy := heap_alloc_new x2 (oRu ⟨#[]⟩ false ⟨#[]⟩ nilS nilS)
                have hn := (Bl.rfl' x2).al (oRu ⟨#[]⟩ false ⟨#[]⟩ nilS nilS)
                obtain ⟨x3, hy⟩ : ∃ X, x2.alloc (.cells #[.string ⟨#[]⟩, .bool false, .slice none 0 0, .slice none 0 0, .int .i64 0, .int .i64 0, .int .i64 0, .int .i64 0, .string ⟨#[]⟩, .slice none 0 0, .slice none 0 0, .int .i64 0, .int .i64 0, .int .i64 0, .int .i64 0, .int .i64 0, .int .i64 0, .int .i64 0, .int .i64 0] 35) = X := ⟨_, rfl⟩
                have hy' : x2.alloc (oRu ⟨#[]⟩ false ⟨#[]⟩ nilS nilS) = x3 := hy
                obtain ⟨py, hp⟩ : ∃ X, x2.heap.size = X := ⟨_, rfl⟩
                have hgy : x0.heap.size ≤ py := by rw [← hp]; exact hq.out.size
                rw [hy', hp] at fy
                rw [hy'] at hn
                rw [hy] at hHeld ⊢
                rw [hp]
                clear hy hy' hp
                replace hq := Lib.hid (hq.out.tr hn)
                clear hn
                replace fy := Lib.hid fy
                refine wpAnyH_ready (rs := [16]) (by kernel_rfl) (by simp) ?_
                refine AllReadyH.cons rfl (fun K hK => ?_) AllReadyH.nil
                refine step_store_ru rfl _ _ rfl py rfl (cRu pp ex px0 nilS nilS) _ rfl fy.out rfl rfl (by kernel_rfl) ?_
                have f9 := setRow_heap x3 py _ (cRu pp ex px0 nilS nilS) _ _ fy.out
                have hb9 : Bl x0 (x3.setRow py (cRu pp ex px0 nilS nilS)) := below_setRow hq.out hgy _
                replace f9 := Lib.hid f9
                replace hb9 := Lib.hid hb9
                refine hK.out _ _ ?_ (fun hHeld => ?_)
                · exact (KX.out _ hb9.out)
                clear hK K
                try simp only [List.getElem_toArray, List.getElem_cons_succ, List.getElem_cons_zero, Act.put, List.setIfInBounds_toArray, List.set_cons_zero, List.set_cons_succ]
                refine wpAnyH_done (by kernel_rfl) ?_ _
                go_wp2_with fail
                go_meet
                case rel => exact ⟨py, rfl, hgy, f9.out, hb9.out⟩
              · have hHeld' := hHeld
                try dsimp only at hHeld'
                go_split_ands
                go_simp
                refine hK.out _ _ ?_ (fun hHeld => ?_)
                · exact (KX.out _ (hq.out.al (.cells #[.string ⟨#[]⟩, .bool false, .slice none 0 0, .slice none 0 0, .int .i64 0, .int .i64 0, .int .i64 0, .int .i64 0, .string ⟨#[]⟩, .slice none 0 0, .slice none 0 0, .int .i64 0, .int .i64 0, .int .i64 0, .int .i64 0, .int .i64 0, .int .i64 0, .int .i64 0, .int .i64 0] 35)))
                clear hK K
                try simp only [List.getElem_toArray, List.getElem_cons_succ, List.getElem_cons_zero, Act.put, List.setIfInBounds_toArray, List.set_cons_zero, List.set_cons_succ]
                have fy := heap_alloc_new x1 (oRu ⟨#[]⟩ false ⟨#[]⟩ nilS nilS)
                have hn := (Bl.rfl' x1).al (oRu ⟨#[]⟩ false ⟨#[]⟩ nilS nilS)
                obtain ⟨x2, hy⟩ : ∃ X, x1.alloc (.cells #[.string ⟨#[]⟩, .bool false, .slice none 0 0, .slice none 0 0, .int .i64 0, .int .i64 0, .int .i64 0, .int .i64 0, .string ⟨#[]⟩, .slice none 0 0, .slice none 0 0, .int .i64 0, .int .i64 0, .int .i64 0, .int .i64 0, .int .i64 0, .int .i64 0, .int .i64 0, .int .i64 0] 35) = X := ⟨_, rfl⟩
                have hy' : x1.alloc (oRu ⟨#[]⟩ false ⟨#[]⟩ nilS nilS) = x2 := hy
                obtain ⟨py, hp⟩ : ∃ X, x1.heap.size = X := ⟨_, rfl⟩
                have hgy : x0.heap.size ≤ py := by rw [← hp]; exact hq.out.size
                rw [hy', hp] at fy
                rw [hy'] at hn
                rw [hy] at hHeld ⊢
                rw [hp]
                clear hy hy' hp
                replace hq := Lib.hid (hq.out.tr hn)
                clear hn
                replace fy := Lib.hid fy
                refine wpAnyH_ready (rs := [13]) (by kernel_rfl) (by simp) ?_
                refine AllReadyH.cons rfl (fun K hK => ?_) AllReadyH.nil
                have hHeld' := hHeld
                try dsimp only at hHeld'
                go_split_ands
                go_simp
                refine (O1.out _).mono ?_
                rintro e x3 ⟨rfl, hn⟩
                replace hq := Lib.hid (hq.out.tr hn)
                replace fy := Lib.hid (blk_bl fy.out hn)
                clear hn
                refine hK.out _ _ ?_ (fun hHeld => ?_)
                · exact (KX.out _ hq.out)
                clear hK K
                try simp only [List.getElem_toArray, List.getElem_cons_succ, List.getElem_cons_zero, Act.put, List.setIfInBounds_toArray, List.set_cons_zero, List.set_cons_succ]
                refine wpAnyH_take (i := 14) (v := ?v14_32) rfl (by kernel_rfl) (by kernel_rfl) (by kernel_rfl) (fun _ _ _ h => h) (Or.inl ⟨by rfl, ?y14_32⟩) hHeld ?r14_32
                case y14_32 => (intro w hSw; (try dsimp only at hSw); go_split_ands; go_simp; try with_reducible rfl)
                try simp only [List.getElem_toArray, List.getElem_cons_succ, List.getElem_cons_zero, Act.put, List.setIfInBounds_toArray, List.set_cons_zero, List.set_cons_succ]
                refine wpAnyH_ready (rs := [16]) (by kernel_rfl) (by simp) ?_
                refine AllReadyH.cons rfl (fun K hK => ?_) AllReadyH.nil
                refine step_store_ru rfl _ _ rfl py rfl (cRu pp ex px0 nilS nilS) _ rfl fy.out rfl rfl (by kernel_rfl) ?_
                have f9 := setRow_heap x3 py _ (cRu pp ex px0 nilS nilS) _ _ fy.out
                have hb9 : Bl x0 (x3.setRow py (cRu pp ex px0 nilS nilS)) := below_setRow hq.out hgy _
                replace f9 := Lib.hid f9
                replace hb9 := Lib.hid hb9
                refine hK.out _ _ ?_ (fun hHeld => ?_)
                · exact (KX.out _ hb9.out)
                clear hK K
                try simp only [List.getElem_toArray, List.getElem_cons_succ, List.getElem_cons_zero, Act.put, List.setIfInBounds_toArray, List.set_cons_zero, List.set_cons_succ]
                refine wpAnyH_done (by kernel_rfl) ?_ _
                go_wp2_with fail
                go_meet
                case rel => exact ⟨py, rfl, hgy, f9.out, hb9.out⟩
            · have hHeld' := hHeld
              try dsimp only at hHeld'
              go_split_ands
              go_simp
              refine hK.out _ _ ?_ (fun hHeld => ?_)
              · exact (KX.out _ (hq.out.al (.cells #[.string ⟨#[]⟩, .bool false, .slice none 0 0, .slice none 0 0, .int .i64 0, .int .i64 0, .int .i64 0, .int .i64 0, .string ⟨#[]⟩, .slice none 0 0, .slice none 0 0, .int .i64 0, .int .i64 0, .int .i64 0, .int .i64 0, .int .i64 0, .int .i64 0, .int .i64 0, .int .i64 0] 35)))
              clear hK K
              try simp only [List.getElem_toArray, List.getElem_cons_succ, List.getElem_cons_zero, Act.put, List.setIfInBounds_toArray, List.set_cons_zero, List.set_cons_succ]
              have fy := heap_alloc_new x1 (oRu ⟨#[]⟩ false ⟨#[]⟩ nilS nilS)
              have hn := (Bl.rfl' x1).al (oRu ⟨#[]⟩ false ⟨#[]⟩ nilS nilS)
              obtain ⟨x2, hy⟩ : ∃ X, x1.alloc (.cells #[.string ⟨#[]⟩, .bool false, .slice none 0 0, .slice none 0 0, .int .i64 0, .int .i64 0, .int .i64 0, .int .i64 0, .string ⟨#[]⟩, .slice none 0 0, .slice none 0 0, .int .i64 0, .int .i64 0, .int .i64 0, .int .i64 0, .int .i64 0, .int .i64 0, .int .i64 0, .int .i64 0] 35) = X := ⟨_, rfl⟩
              have hy' : x1.alloc (oRu ⟨#[]⟩ false ⟨#[]⟩ nilS nilS) = x2 := hy
              obtain ⟨py, hp⟩ : ∃ X, x1.heap.size = X := ⟨_, rfl⟩
              have hgy : x0.heap.size ≤ py := by rw [← hp]; exact hq.out.size
              rw [hy', hp] at fy
              rw [hy'] at hn
              rw [hy] at hHeld ⊢
              rw [hp]
              clear hy hy' hp
              replace hq := Lib.hid (hq.out.tr hn)
              clear hn
              replace fy := Lib.hid fy
              refine wpAnyH_ready (rs := [7]) (by kernel_rfl) (by simp) ?_
              refine AllReadyH.cons rfl (fun K hK => ?_) AllReadyH.nil
              have hHeld' := hHeld
              try dsimp only at hHeld'
              go_split_ands
              go_simp
              refine (AR2.out _).mono ?_
              rintro e w' ⟨rfl, rfl⟩
              refine hK.out _ _ ?_ (fun hHeld => ?_)
              · exact (KX.out _ hq.out)
              clear hK K
              try simp only [List.getElem_toArray, List.getElem_cons_succ, List.getElem_cons_zero, Act.put, List.setIfInBounds_toArray, List.set_cons_zero, List.set_cons_succ]
              refine wpAnyH_take (i := 8) (v := ?v8_33) rfl (by kernel_rfl) (by kernel_rfl) (by kernel_rfl) (fun _ _ _ h => h) (Or.inl ⟨by rfl, ?y8_33⟩) hHeld ?r8_33
              case y8_33 => (intro w hSw; (try dsimp only at hSw); go_split_ands; go_simp; try with_reducible rfl)
              try simp only [List.getElem_toArray, List.getElem_cons_succ, List.getElem_cons_zero, Act.put, List.setIfInBounds_toArray, List.set_cons_zero, List.set_cons_succ]
              refine wpAnyH_take (i := 9) (v := ?v9_34) rfl (by kernel_rfl) (by kernel_rfl) (by kernel_rfl) (fun _ _ _ h => h) (Or.inl ⟨by rfl, ?y9_34⟩) hHeld ?r9_34
              case y9_34 => (intro w hSw; (try dsimp only at hSw); go_split_ands; go_simp; try with_reducible rfl)
              try simp only [List.getElem_toArray, List.getElem_cons_succ, List.getElem_cons_zero, Act.put, List.setIfInBounds_toArray, List.set_cons_zero, List.set_cons_succ]
              refine wpAnyH_ready (rs := [13]) (by kernel_rfl) (by simp) ?_
              refine AllReadyH.cons rfl (fun K hK => ?_) AllReadyH.nil
              have hHeld' := hHeld
              try dsimp only at hHeld'
              go_split_ands
              go_simp
              refine (O1.out _).mono ?_
              rintro e x3 ⟨rfl, hn⟩
              replace hq := Lib.hid (hq.out.tr hn)
              replace fy := Lib.hid (blk_bl fy.out hn)
              clear hn
              refine hK.out _ _ ?_ (fun hHeld => ?_)
              · exact (KX.out _ hq.out)
              clear hK K
              try simp only [List.getElem_toArray, List.getElem_cons_succ, List.getElem_cons_zero, Act.put, List.setIfInBounds_toArray, List.set_cons_zero, List.set_cons_succ]
              refine wpAnyH_take (i := 14) (v := ?v14_35) rfl (by kernel_rfl) (by kernel_rfl) (by kernel_rfl) (fun _ _ _ h => h) (Or.inl ⟨by rfl, ?y14_35⟩) hHeld ?r14_35
              case y14_35 => (intro w hSw; (try dsimp only at hSw); go_split_ands; go_simp; try with_reducible rfl)
              try simp only [List.getElem_toArray, List.getElem_cons_succ, List.getElem_cons_zero, Act.put, List.setIfInBounds_toArray, List.set_cons_zero, List.set_cons_succ]
              refine wpAnyH_ready (rs := [16]) (by kernel_rfl) (by simp) ?_
              refine AllReadyH.cons rfl (fun K hK => ?_) AllReadyH.nil
              refine step_store_ru rfl _ _ rfl py rfl (cRu pp ex px0 nilS nilS) _ rfl fy.out rfl rfl (by kernel_rfl) ?_
              have f9 := setRow_heap x3 py _ (cRu pp ex px0 nilS nilS) _ _ fy.out
              have hb9 : Bl x0 (x3.setRow py (cRu pp ex px0 nilS nilS)) := below_setRow hq.out hgy _
              replace f9 := Lib.hid f9
              replace hb9 := Lib.hid hb9
              refine hK.out _ _ ?_ (fun hHeld => ?_)
              · exact (KX.out _ hb9.out)
              clear hK K
              try simp only [List.getElem_toArray, List.getElem_cons_succ, List.getElem_cons_zero, Act.put, List.setIfInBounds_toArray, List.set_cons_zero, List.set_cons_succ]
              refine wpAnyH_done (by kernel_rfl) ?_ _
              go_wp2_with fail
              go_meet
              case rel => exact ⟨py, rfl, hgy, f9.out, hb9.out⟩
          · have hHeld' := hHeld
            try dsimp only at hHeld'
            go_split_ands
            go_simp
            refine hK.out _ _ ?_ (fun hHeld => ?_)
            · exact (KX.out _ (hq.out.al (.cells #[.string ⟨#[]⟩, .bool false, .slice none 0 0, .slice none 0 0, .int .i64 0, .int .i64 0, .int .i64 0, .int .i64 0, .string ⟨#[]⟩, .slice none 0 0, .slice none 0 0, .int .i64 0, .int .i64 0, .int .i64 0, .int .i64 0, .int .i64 0, .int .i64 0, .int .i64 0, .int .i64 0] 35)))
            clear hK K
            try simp only [List.getElem_toArray, List.getElem_cons_succ, List.getElem_cons_zero, Act.put, List.setIfInBounds_toArray, List.set_cons_zero, List.set_cons_succ]
            have fy := heap_alloc_new x0 (oRu ⟨#[]⟩ false ⟨#[]⟩ nilS nilS)
            have hn := (Bl.rfl' x0).al (oRu ⟨#[]⟩ false ⟨#[]⟩ nilS nilS)
            obtain ⟨x1, hy⟩ : ∃ X, x0.alloc (.cells #[.string ⟨#[]⟩, .bool false, .slice none 0 0, .slice none 0 0, .int .i64 0, .int .i64 0, .int .i64 0, .int .i64 0, .string ⟨#[]⟩, .slice none 0 0, .slice none 0 0, .int .i64 0, .int .i64 0, .int .i64 0, .int .i64 0, .int .i64 0, .int .i64 0, .int .i64 0, .int .i64 0] 35) = X := ⟨_, rfl⟩
            have hy' : x0.alloc (oRu ⟨#[]⟩ false ⟨#[]⟩ nilS nilS) = x1 := hy
            obtain ⟨py, hp⟩ : ∃ X, x0.heap.size = X := ⟨_, rfl⟩
            have hgy : x0.heap.size ≤ py := by rw [← hp]; exact hq.out.size
            rw [hy', hp] at fy
            rw [hy'] at hn
            rw [hy] at hHeld ⊢
            rw [hp]
            clear hy hy' hp
            replace hq := Lib.hid (hq.out.tr hn)
            clear hn
            replace fy := Lib.hid fy
            refine wpAnyH_ready (rs := [3]) (by kernel_rfl) (by simp) ?_
            refine AllReadyH.cons rfl (fun K hK => ?_) AllReadyH.nil
            have hHeld' := hHeld
            try dsimp only at hHeld'
            go_split_ands
            go_simp
            refine (O0.out _).mono ?_
            rintro e x2 ⟨rfl, hn⟩
            replace hq := Lib.hid (hq.out.tr hn)
            replace fy := Lib.hid (blk_bl fy.out hn)
            clear hn
            refine hK.out _ _ ?_ (fun hHeld => ?_)
            · exact (KX.out _ hq.out)
            clear hK K
            try simp only [List.getElem_toArray, List.getElem_cons_succ, List.getElem_cons_zero, Act.put, List.setIfInBounds_toArray, List.set_cons_zero, List.set_cons_succ]
            refine wpAnyH_ready (rs := [7]) (by kernel_rfl) (by simp) ?_
            refine AllReadyH.cons rfl (fun K hK => ?_) AllReadyH.nil
            have hHeld' := hHeld
            try dsimp only at hHeld'
            go_split_ands
            go_simp
            refine (AR2.out _).mono ?_
            rintro e w' ⟨rfl, rfl⟩
            refine hK.out _ _ ?_ (fun hHeld => ?_)
            · exact (KX.out _ hq.out)
            clear hK K
            try simp only [List.getElem_toArray, List.getElem_cons_succ, List.getElem_cons_zero, Act.put, List.setIfInBounds_toArray, List.set_cons_zero, List.set_cons_succ]
            refine wpAnyH_take (i := 8) (v := ?v8_36) rfl (by kernel_rfl) (by kernel_rfl) (by kernel_rfl) (fun _ _ _ h => h) (Or.inl ⟨by rfl, ?y8_36⟩) hHeld ?r8_36
            case y8_36 => (intro w hSw; (try dsimp only at hSw); go_split_ands; go_simp; try with_reducible rfl)
            try simp only [List.getElem_toArray, List.getElem_cons_succ, List.getElem_cons_zero, Act.put, List.setIfInBounds_toArray, List.set_cons_zero, List.set_cons_succ]
            refine wpAnyH_take (i := 9) (v := ?v9_37) rfl (by kernel_rfl) (by kernel_rfl) (by kernel_rfl) (fun _ _ _ h => h) (Or.inl ⟨by rfl, ?y9_37⟩) hHeld ?r9_37
            case y9_37 => (intro w hSw; (try dsimp only at hSw); go_split_ands; go_simp; try with_reducible rfl)
            try simp only [List.getElem_toArray, List.getElem_cons_succ, List.getElem_cons_zero, Act.put, List.setIfInBounds_toArray, List.set_cons_zero, List.set_cons_succ]
            refine wpAnyH_ready (rs := [13]) (by kernel_rfl) (by simp) ?_
            refine AllReadyH.cons rfl (fun K hK => ?_) AllReadyH.nil
            have hHeld' := hHeld
            try dsimp only at hHeld'
            go_split_ands
            go_simp
            refine (O1.out _).mono ?_
            rintro e x3 ⟨rfl, hn⟩
            replace hq := Lib.hid (hq.out.tr hn)
            replace fy := Lib.hid (blk_bl fy.out hn)
            clear hn
            refine hK.out _ _ ?_ (fun hHeld => ?_)
            · exact (KX.out _ hq.out)
            clear hK K
            try simp only [List.getElem_toArray, List.getElem_cons_succ, List.getElem_cons_zero, Act.put, List.setIfInBounds_toArray, List.set_cons_zero, List.set_cons_succ]
            refine wpAnyH_take (i := 14) (v := ?v14_38) rfl (by kernel_rfl) (by kernel_rfl) (by kernel_rfl) (fun _ _ _ h => h) (Or.inl ⟨by rfl, ?y14_38⟩) hHeld ?r14_38
            case y14_38 => (intro w hSw; (try dsimp only at hSw); go_split_ands; go_simp; try with_reducible rfl)
            try simp only [List.getElem_toArray, List.getElem_cons_succ, List.getElem_cons_zero, Act.put, List.setIfInBounds_toArray, List.set_cons_zero, List.set_cons_succ]
            refine wpAnyH_ready (rs := [16]) (by kernel_rfl) (by simp) ?_
            refine AllReadyH.cons rfl (fun K hK => ?_) AllReadyH.nil
            refine step_store_ru rfl _ _ rfl py rfl (cRu pp ex px0 nilS nilS) _ rfl fy.out rfl rfl (by kernel_rfl) ?_
            have f9 := setRow_heap x3 py _ (cRu pp ex px0 nilS nilS) _ _ fy.out
            have hb9 : Bl x0 (x3.setRow py (cRu pp ex px0 nilS nilS)) := below_setRow hq.out hgy _
            replace f9 := Lib.hid f9
            replace hb9 := Lib.hid hb9
            refine hK.out _ _ ?_ (fun hHeld => ?_)
            · exact (KX.out _ hb9.out)
            clear hK K
            try simp only [List.getElem_toArray, List.getElem_cons_succ, List.getElem_cons_zero, Act.put, List.setIfInBounds_toArray, List.set_cons_zero, List.set_cons_succ]
            refine wpAnyH_done (by kernel_rfl) ?_ _
            go_wp2_with fail
            go_meet
            case rel => exact ⟨py, rfl, hgy, f9.out, hb9.out⟩
        case rest =>
          obtain ⟨py, rfl, hgy, hy, hbc⟩ := hcut
          have t1 := hb.out.tr (g0.tr hbc)
          have hpy : w.heap.size ≤ py := Nat.le_trans (hb.out.tr g0).size hgy
          have n3 := cell_at (blk_bl hn4.out (g0.tr hbc)) 3
          simp only [List.getElem?_toArray, List.getElem?_cons_succ, List.getElem?_cons_zero] at n3
          have h0c := blk_bl h0.out (g0.tr hbc)
          have hrp : r0 < py := Nat.lt_of_lt_of_le (lt_of_block (blk_bl h0.out g0)) hgy
          clear hq KX bR hn hn4 h0 hb O0 O1 AR2 hbc g0 hx0 hdec hgy
          replace t1 := Lib.hid t1
          replace hpy := Lib.hid hpy
          replace h0c := Lib.hid h0c
          replace hrp := Lib.hid hrp
          replace hy := Lib.hid hy
          go_upto_if 44 with (with_reducible refine (AR3.out _).mono ?_; rintro e w' ⟨rfl, rfl⟩)
          go_cut [5] from 40 to 45 (fun q wx => q = .pointer (some ⟨py, 0, none⟩) ∧ wx.heap[py]? = some (oRu pp ex RX nilS nilS) ∧ wx.heap[r0]? = some (oRu ⟨#[]⟩ false ⟨#[]⟩ nilS nilS) ∧ Bl w wx)
          case first =>
            have hrx := hRX.out
            by_cases h5 : around (gz 3) 6 = 5
            · have e5 : (around (gz 3) 6 == 5) = true := beq_iff_eq.2 h5
              rw [if_pos h5] at hrx
              have c8 := cell_at hy.out 8
              have f8 := free_at hy.out 8
              have s8 := set_at 8 (S ⟨#[]⟩) hy.out
              simp only [List.setIfInBounds_toArray, List.set_cons_zero, List.set_cons_succ] at s8
              simp only [List.getElem?_toArray, List.getElem?_cons_succ, List.getElem?_cons_zero] at c8
              have g8 := gby_set wc py 8 (S ⟨#[]⟩)
              have h08 := (g8.block r0 (lt_of_block h0c.out) (fun e => by cases e; have := hrp.out; omega)).trans h0c.out
              have hb8 := t1.out.gp g8 hpy.out
              obtain ⟨w8, hw8⟩ : ∃ X, wc.setCell ⟨py, 8, none⟩ (S ⟨#[]⟩) = X := ⟨_, rfl⟩
              rw [hw8] at s8 h08 hb8
              clear g8 h5
              replace s8 := Lib.hid s8
              replace h08 := Lib.hid h08
              replace hb8 := Lib.hid hb8
              replace hrx := Lib.hid hrx
              go_wp2_with fail
              go_meet
              case rel => exact ⟨rfl, by rw [← hrx.out]; exact s8.out, h08.out, hb8.out⟩
            · have e5 : (around (gz 3) 6 == 5) = false := beq_eq_false_iff_ne.2 h5
              rw [if_neg h5, hpx0.out] at hrx
              clear h5
              replace hrx := Lib.hid hrx
              go_wp2_with fail
              go_meet
              case rel => exact ⟨rfl, by rw [← hrx.out]; exact hy.out, h0c.out, t1.out⟩
          case rest =>
            obtain ⟨rfl, hy2, h02, hb2⟩ := hcut
            obtain ⟨j, hj⟩ : ∃ j, min N 4 = j := ⟨_, rfl⟩
            have hjN : j ≤ N := by omega
            have hjc : j ≤ cap := by omega
            have hmin : min (N : Int) 4 = (j : Int) := by omega
            have RJ := Lib.hid (fun w' (hb : Bl w w') => (RD.out w' hb).drop j (by rw [hN'.out]; exact hjN))
            have R2 := RJ.out wc hb2
            obtain ⟨adp, hadp⟩ : ∃ x, (if cap = j then a else Option.map (fun x => x.add j) a) = x := ⟨_, rfl⟩
            rw [hadp] at R2
            clear hj n3 AR3 hRX hzz
            replace R2 := Lib.hid R2
            replace hy2 := Lib.hid hy2
            replace h02 := Lib.hid h02
            replace hb2 := Lib.hid hb2
            obtain ⟨M, hM⟩ : ∃ M, N - j = M := ⟨_, rfl⟩
            obtain ⟨cap2, hcap2⟩ : ∃ c, cap - j = c := ⟨_, rfl⟩
            have hlR : (z0.drop j).length = M := by rw [List.length_drop, hN'.out]; exact hM
            have okR : i64ok (z0.drop j) := fun x hx => hz.out x (List.mem_of_mem_drop hx)
            obtain ⟨ZR, hZR⟩ : ∃ z_, (z0.drop j) = z_ := ⟨_, rfl⟩
            rw [hZR] at hlR okR
            replace R2 := R2.out
            rw [hM, hcap2, hZR] at R2
            have hadp2 := Lib.hid hadp; have hM2 := Lib.hid hM; have hcap22 := Lib.hid hcap2
            replace hZR := Lib.hid hZR
            have TI : Calls Try.prog 28 #[.slice adp M cap2, I 4] wc fun e w' => ∃ x, e = .returned x ∧ w'.ownsRow wc.heap.size 3 1 x (min ZR.length 4) ((ZR.take (min ZR.length 4)).map I) ∧ Bl wc w' := takeI_any _ ZR 4 wc R2 (by omega)
            replace R2 := Lib.hid R2
            replace TI := Lib.hid TI
            replace okR := Lib.hid okR
            replace hlR := Lib.hid hlR
            go_upto_region 10 with fail
            go_wp2_with fail
            with_reducible refine (TI.out).mono ?_
            rintro e w5 ⟨x5, rfl, hO5, hn5⟩
            have hl5 : (ZR.take (min ZR.length 4)).length = min ZR.length 4 := by rw [List.length_take]; omega
            have hI5 := ints_ownR (L := ZR.take (min ZR.length 4)) (by rw [hl5]; exact hO5)
            have ok5 : i64ok (ZR.take (min ZR.length 4)) := fun x hx => okR.out x (List.mem_of_mem_take hx)
            have HM := heads_mk _ _ _ hI5 ok5 (by rw [hl5]; unfold maxLen; omega)
            have hb5 := hb2.out.tr hn5
            have hy5 := blk_bl hy2.out hn5
            have h05 := blk_bl h02.out hn5
            have R5 := R2.out.bl hn5
            obtain ⟨xa, xg, xc, xr, rfl, -⟩ := own_blk hO5 (by decide)
            clear hO5 hn5 hl5 hI5 ok5 hy2 h02 hb2 R2 TI
            replace HM := Lib.hid HM
            replace hb5 := Lib.hid hb5
            replace hy5 := Lib.hid hy5
            replace h05 := Lib.hid h05
            replace R5 := Lib.hid R5
            go_wp2_with fail
            with_reducible refine (HM.out).mono ?_
            rintro e w6 ⟨sv, rfl, hS, hn6⟩
            have hH6 := heads_own hS
            obtain ⟨sa, sg, sc, rfl, -⟩ := OwnB.row hS (by decide)
            have okHS : OkH (headsF (ZR.take (min ZR.length 4)) (min (ZR.take (min ZR.length 4)).length 12)) := ok_heads _ _
            obtain ⟨HS, hHS⟩ : ∃ z_, (headsF (ZR.take (min ZR.length 4)) (min (ZR.take (min ZR.length 4)).length 12)) = z_ := ⟨_, rfl⟩
            rw [hHS] at hH6 hS okHS
            replace okHS := Lib.hid okHS
            rw [hHS]
            have hb6 := hb5.out.tr hn6
            have hy6 := blk_bl hy5.out hn6
            have h06 := blk_bl h05.out hn6
            have R6 := R5.out.bl hn6
            have c9 := cell_at hy6 9
            have f9 := free_at hy6 9
            have s9 := set_at 9 (.slice sa HS.length sc) hy6
            simp only [List.setIfInBounds_toArray, List.set_cons_zero, List.set_cons_succ] at s9
            simp only [List.getElem?_toArray, List.getElem?_cons_succ, List.getElem?_cons_zero] at c9
            have g9 := gby_set w6 py 9 (.slice sa HS.length sc)
            have lpy := lt_of_block hy5.out
            have lr0 := lt_of_block h05.out
            have hS7 := OwnB.gby hS g9 lpy
            have h07 := (g9.block r0 (lt_of_block h06) (fun e => by cases e; have := hrp.out; omega)).trans h06
            have hb7 := hb6.gp g9 hpy.out
            obtain ⟨w7, hw7⟩ : ∃ X, w6.setCell ⟨py, 9, none⟩ (.slice sa HS.length sc) = X := ⟨_, rfl⟩
            rw [hw7] at s9 hS7 h07 hb7
            have R7 := RJ.out w7 hb7
            rw [hadp2.out, hM2.out, hcap22.out, hZR.out] at R7
            obtain ⟨j2, hj2⟩ : ∃ j, min M 4 = j := ⟨_, rfl⟩
            have hj2M : j2 ≤ M := by omega
            have hmin2 : min (M : Int) 4 = (j2 : Int) := by omega
            have hMc : M ≤ cap2 := by have := hM2.out; have := hcap22.out; omega
            have hj2c : j2 ≤ cap2 := by omega
            have R8 := R7.drop j2 (by rw [hlR.out]; exact hj2M)
            obtain ⟨adq, hadq⟩ : ∃ x, (if cap2 = j2 then adp else Option.map (fun x => x.add j2) adp) = x := ⟨_, rfl⟩
            rw [hadq] at R8
            have okN : i64ok (ZR.drop j2) := fun x hx => okR.out x (List.mem_of_mem_drop hx)
            have hlN : (ZR.drop j2).length ≤ maxLen := by rw [List.length_drop, hlR.out]; unfold maxLen; omega
            have NM := names_mk _ _ _ R8.at okN hlN
            have hy7 : w7.heap[py]? = some (oRu pp ex RX (.slice sa HS.length sc) nilS) := s9
            clear g9 R7 R8 okN hlN hS hH6 hy6 h06 hb6 hb5 hy5 h05 R6 R5 s9 HM hj2 hn6
            replace NM := Lib.hid NM
            replace hS7 := Lib.hid hS7
            replace h07 := Lib.hid h07
            replace hb7 := Lib.hid hb7
            replace hy7 := Lib.hid hy7
            replace lpy := Lib.hid lpy
            replace lr0 := Lib.hid lr0
            go_wp2_with fail
            with_reducible refine (NM.out).mono ?_
            rintro e w8 ⟨dv, rfl, hD, hn8⟩
            have hT8 := texts_own hD
            obtain ⟨da, dg, dc, rfl, -⟩ := OwnB.row hD (by decide)
            have lDS : (namesF (ZR.drop j2) (min (ZR.drop j2).length 6)).length ≤ 6 := by rw [namesF_len]; omega
            obtain ⟨DS, hDS⟩ : ∃ z_, (namesF (ZR.drop j2) (min (ZR.drop j2).length 6)) = z_ := ⟨_, rfl⟩
            rw [hDS] at hT8 hD lDS
            replace lDS := Lib.hid lDS
            rw [hDS]
            have hb8 := hb7.out.tr hn8
            have hy8 := blk_bl hy7.out hn8
            have h08 := blk_bl h07.out hn8
            have hS8 := hS7.out.bl hn8
            have c10 := cell_at hy8 10
            have f10 := free_at hy8 10
            have s10 := set_at 10 (.slice da DS.length dc) hy8
            simp only [List.setIfInBounds_toArray, List.set_cons_zero, List.set_cons_succ] at s10
            simp only [List.getElem?_toArray, List.getElem?_cons_succ, List.getElem?_cons_zero] at c10
            have g10 := gby_set w8 py 10 (.slice da DS.length dc)
            have lpy8 := lt_of_block hy8
            have hS9 := OwnB.gby hS8 g10 lpy.out
            have hD9 := OwnB.gby hD g10 (lt_of_block hy7.out)
            have h09 := (g10.block r0 (lt_of_block h08) (fun e => by cases e; have := hrp.out; omega)).trans h08
            have hb9 := hb8.gp g10 hpy.out
            obtain ⟨w9, hw9⟩ : ∃ X, w8.setCell ⟨py, 10, none⟩ (.slice da DS.length dc) = X := ⟨_, rfl⟩
            rw [hw9] at s10 hS9 hD9 h09 hb9
            have hy9 : w9.heap[py]? = some (oRu pp ex RX (.slice sa HS.length sc) (.slice da DS.length dc)) := s10
            have lr7 := lt_of_block h07.out
            clear g10 hy8 h08 hb8 hS8 hD hT8 s10 hn8
            replace hS9 := Lib.hid hS9
            replace hD9 := Lib.hid hD9
            replace h09 := Lib.hid h09
            replace hb9 := Lib.hid hb9
            replace hy9 := Lib.hid hy9
            replace lr7 := Lib.hid lr7
            rw [e0'.out]
            go_upto_region 12 with fail
            go_upto_region 99 with first | (refine wpList_load_ru _ py _ _ _ _ _ hy9.out rfl rfl rfl ?_) | (refine wpList_store_row rfl 35 _ _ rfl r0 _ rfl rfl 35 _ h09.out sizeRu rfl (by kernel_rfl) ?_)
            have gr := gby_row w9 r0 (cRu pp ex RX (.slice sa HS.length sc) (.slice da DS.length dc))
            have hSZ := heads_own (OwnB.gby hS9.out gr lr0.out)
            have hDZ := texts_own (OwnB.gby hD9.out gr lr7.out)
            have f0 := setRow_heap w9 r0 _ (cRu pp ex RX (.slice sa HS.length sc) (.slice da DS.length dc)) _ _ h09.out
            have hbZ := below_setRow hb9.out (show w.heap.size ≤ r0 by rw [e0'.out]; exact Nat.le_refl _) (cRu pp ex RX (.slice sa HS.length sc) (.slice da DS.length dc))
            obtain ⟨wZ, hwZ⟩ : ∃ X, w9.setRow r0 (cRu pp ex RX (.slice sa HS.length sc) (.slice da DS.length dc)) = X := ⟨_, rfl⟩
            rw [hwZ] at hSZ hDZ f0 hbZ
            have hpz : (ofF (gz 0)) = pp := hpp.out
            have hez : decide (around (gz 2) 4 = 1) = ex := hex.out
            rw [hpz, hez]
            rw [show w9.setRow r0 #[S pp, Value.bool ex, Value.slice none 0 0, Value.slice none 0 0, I 0, I 0, I 0, I 0, S RX, Value.slice sa HS.length sc, Value.slice da DS.length dc, I 0, I 0, I 0, I 0, I 0, I 0, I 0, I 0] = wZ from hwZ]
            clear gr hS9 hD9
            refine bodyPost_ret (results_cell_row rfl _ _ r0 _ _ _ _ rfl f0 Try.underlying35 rfl sizeRu) rfl ?_
            exact ⟨_, _, _, _, rfl, hSZ, hDZ, hbZ, okHS.out, lDS.out⟩
end Go.Proofs.Ytnmehmlenbbfbaa.mat
