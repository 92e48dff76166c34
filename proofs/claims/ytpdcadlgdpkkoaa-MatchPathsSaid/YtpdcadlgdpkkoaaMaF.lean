/-
  Package match: Cmp.
-/
import Derived.Test.YtpdcadlgdpkkoaaMaE
import Derived.Deep.CutRange
namespace Go.Proofs.Ytpdcadlgdpkkoaa.mat
open Go.ChangeShapes Go.WideShapes Go.ChangeAt Go.RowKit
open Go.Proofs.Ytpdcadlgdpkkoaa.heads
set_option linter.unusedVariables false
set_option linter.unusedSimpArgs false

def cmp3 (a b c d e f : Int) : Int := if a ≠ d then (if a > d then -1 else 1) else if b ≠ e then (if b > e then -1 else 1) else if c ≠ f then (if c > f then -1 else 1) else 0
theorem cmp_1 (A B C D E F : Int) (h : A ≠ D) : cmp3 A B C D E F = if A > D then -1 else 1 := by unfold cmp3; rw [if_pos h]
theorem cmp_2 (A B C D E F : Int) (h : A = D) (g : B ≠ E) : cmp3 A B C D E F = if B > E then -1 else 1 := by unfold cmp3; rw [if_neg (by simp [h]), if_pos g]
theorem cmp_3 (A B C D E F : Int) (h : A = D) (g : B = E) (i : C ≠ F) : cmp3 A B C D E F = if C > F then -1 else 1 := by unfold cmp3; rw [if_neg (by simp [h]), if_neg (by simp [g]), if_pos i]
theorem cmp_4 (A B C D E F : Int) (h : A = D) (g : B = E) (i : C = F) : cmp3 A B C D E F = 0 := by unfold cmp3; rw [if_neg (by simp [h]), if_neg (by simp [g]), if_neg (by simp [i])]
set_option maxRecDepth 20000 in
set_option maxHeartbeats 4000000 in
theorem cmp_any (p : ByteArray) (x : Bool) (a : Option Addr) (n cap : Nat) (p' : ByteArray) (x' : Bool) (a' : Option Addr) (n' cap' : Nat) (w : World) (hn : n ≤ 1000000) (hp : p.size ≤ 1000000) (hn' : n' ≤ 1000000) (hp' : p'.size ≤ 1000000) :
    Calls Try.prog 17 #[mV p x (.slice a n cap), mV p' x' (.slice a' n' cap')] w fun e w' => e = .returned (I (cmp3 (bI x) (partsN p) n (bI x') (partsN p') n')) ∧ Bl w w' := by
  have R1 := Lib.hid (fun w => rank_any p x a n cap w hn hp)
  have R3 := Lib.hid (fun w => rank_any p' x' a' n' cap' w hn' hp')
  have b1 := heap_alloc_new w (oM p x (.slice a n cap))
  have b2 := heap_alloc_new (w.alloc (oM p x (.slice a n cap))) (oM p' x' (.slice a' n' cap'))
  have hb0 := (((Bl.rfl' w).al (oM p x (.slice a n cap))).al (oM p' x' (.slice a' n' cap'))).dr
  replace b1 := blk_bl b1 (((Bl.rfl' (w.alloc (oM p x (.slice a n cap)))).al (oM p' x' (.slice a' n' cap'))).dr)
  replace b2 := blk_bl b2 ((Bl.rfl' ((w.alloc (oM p x (.slice a n cap))).alloc (oM p' x' (.slice a' n' cap')))).dr)
  obtain ⟨r1, h1⟩ : ∃ X, w.heap.size = X := ⟨_, rfl⟩
  obtain ⟨r2, h2⟩ : ∃ X, (w.alloc (oM p x (.slice a n cap))).heap.size = X := ⟨_, rfl⟩
  rw [h1] at b1
  rw [h2] at b2
  obtain ⟨zz, hzz⟩ : ∃ X, (w.alloc (oM p x (.slice a n cap))).alloc (oM p' x' (.slice a' n' cap')) = X := ⟨_, rfl⟩
  rw [hzz] at b1 b2 hb0
  obtain ⟨z0, hz0⟩ : ∃ X, zz.drew = X := ⟨_, rfl⟩
  rw [hz0] at b1 b2 hb0
  have KX := Lib.hid (fun w' (hb : Bl z0 w') => (⟨cell_at (blk_bl b1 hb) 0, cell_at (blk_bl b1 hb) 1, cell_at (blk_bl b1 hb) 2, cell_at (blk_bl b2 hb) 0, cell_at (blk_bl b2 hb) 1, cell_at (blk_bl b2 hb) 2⟩ : w'.cell? ⟨r1, 0, none⟩ = some (S p) ∧ w'.cell? ⟨r1, 1, none⟩ = some (.bool x) ∧ w'.cell? ⟨r1, 2, none⟩ = some (.slice a n cap) ∧ w'.cell? ⟨r2, 0, none⟩ = some (S p') ∧ w'.cell? ⟨r2, 1, none⟩ = some (.bool x') ∧ w'.cell? ⟨r2, 2, none⟩ = some (.slice a' n' cap')))
  have hq := Lib.hid (Bl.rfl' z0)
  obtain ⟨A, hA⟩ : ∃ z_, (bI x) = z_ := ⟨_, rfl⟩
  obtain ⟨B, hB⟩ : ∃ z_, ((partsN p : Int)) = z_ := ⟨_, rfl⟩
  obtain ⟨C, hC⟩ : ∃ z_, ((n : Int)) = z_ := ⟨_, rfl⟩
  obtain ⟨D, hD⟩ : ∃ z_, (bI x') = z_ := ⟨_, rfl⟩
  obtain ⟨E, hE⟩ : ∃ z_, ((partsN p' : Int)) = z_ := ⟨_, rfl⟩
  obtain ⟨F, hF⟩ : ∃ z_, ((n' : Int)) = z_ := ⟨_, rfl⟩
  rw [hA, hB, hC, hD, hE, hF]
  simp only [hA, hB, hC] at R1
  simp only [hD, hE, hF] at R3
  clear hA hB hC hD hE hF hn hp hn' hp' b1 b2
  have c1 := fun h => cmp_1 A B C D E F h
  have c2 := fun h g => cmp_2 A B C D E F h g
  have c3 := fun h g i => cmp_3 A B C D E F h g i
  have c4 := cmp_4 A B C D E F
  obtain ⟨R, hR⟩ : ∃ z_, (cmp3 A B C D E F) = z_ := ⟨_, rfl⟩
  simp only [hR] at c1 c2 c3 c4
  rw [hR]
  clear hR
  replace hb0 := Lib.hid hb0
  replace c1 := Lib.hid c1
  replace c2 := Lib.hid c2
  replace c3 := Lib.hid c3
  replace c4 := Lib.hid c4
  go_enter Try.func17, Try.ntmps17
  go_upto_region 1 with fail
  go_cut [5, 6] from 8 to 11 (fun u v wx => ∃ px py, u = .pointer (some ⟨px, 0, none⟩) ∧ v = .pointer (some ⟨py, 0, none⟩) ∧ wx.heap[px]? = some (oR A B C) ∧ wx.heap[py]? = some (oR D E F) ∧ Bl w wx)
  case first =>
    refine wp_region_held_drew (S := fun w' => w'.cell? ⟨r1, 0, none⟩ = some (S p) ∧ w'.cell? ⟨r1, 1, none⟩ = some (.bool x) ∧ w'.cell? ⟨r1, 2, none⟩ = some (.slice a n cap) ∧ w'.cell? ⟨r2, 0, none⟩ = some (S p') ∧ w'.cell? ⟨r2, 1, none⟩ = some (.bool x') ∧ w'.cell? ⟨r2, 2, none⟩ = some (.slice a' n' cap')) (by kernel_rfl) ?_ (fun hHeld => ?_)
    · exact KX.out _ (by rw [hz0]; exact Bl.rfl' _)
    rw [hz0] at hHeld ⊢
    clear hz0 hzz
    refine wpAnyH_take (i := 0) (v := ?v0_1) rfl (by kernel_rfl) (by kernel_rfl) (by kernel_rfl) (fun _ _ _ h => h) (Or.inl ⟨by rfl, ?y0_1⟩) hHeld ?r0_1
    case y0_1 => (intro w hSw; (try dsimp only at hSw); go_split_ands; go_simp; try with_reducible rfl)
    try simp only [List.getElem_toArray, List.getElem_cons_succ, List.getElem_cons_zero, Act.put, List.setIfInBounds_toArray, List.set_cons_zero, List.set_cons_succ]
    refine wpAnyH_take (i := 2) (v := ?v2_2) rfl (by kernel_rfl) (by kernel_rfl) (by kernel_rfl) (fun _ _ _ h => h) (Or.inl ⟨by rfl, ?y2_2⟩) hHeld ?r2_2
    case y2_2 => (intro w hSw; (try dsimp only at hSw); go_split_ands; go_simp; try with_reducible rfl)
    try simp only [List.getElem_toArray, List.getElem_cons_succ, List.getElem_cons_zero, Act.put, List.setIfInBounds_toArray, List.set_cons_zero, List.set_cons_succ]
    refine wpAnyH_ready (rs := [1, 4, 5]) (by kernel_rfl) (by simp) ?_
    refine AllReadyH.cons rfl (fun K hK => ?_) (AllReadyH.cons rfl (fun K hK => ?_) (AllReadyH.cons rfl (fun K hK => ?_) (AllReadyH.nil)))
    · skip
      have hHeld' := hHeld
      try dsimp only at hHeld'
      go_split_ands
      go_simp
      refine (R1.out z0).mono ?_
      rintro e z1 ⟨rfl, hn⟩
      replace hq := Lib.hid (hq.out.tr hn)
      clear hn
      refine hK.out _ _ ?_ (fun hHeld => ?_)
      · exact (KX.out _ hq.out)
      clear hK K
      try simp only [List.getElem_toArray, List.getElem_cons_succ, List.getElem_cons_zero, Act.put, List.setIfInBounds_toArray, List.set_cons_zero, List.set_cons_succ]
      refine wpAnyH_ready (rs := [3, 4, 5]) (by kernel_rfl) (by simp) ?_
      refine AllReadyH.cons rfl (fun K hK => ?_) (AllReadyH.cons rfl (fun K hK => ?_) (AllReadyH.cons rfl (fun K hK => ?_) (AllReadyH.nil)))
      · skip
        have hHeld' := hHeld
        try dsimp only at hHeld'
        go_split_ands
        go_simp
        refine (R3.out z1).mono ?_
        rintro e z2 ⟨rfl, hn⟩
        replace hq := Lib.hid (hq.out.tr hn)
        clear hn
        refine hK.out _ _ ?_ (fun hHeld => ?_)
        · exact (KX.out _ hq.out)
        clear hK K
        try simp only [List.getElem_toArray, List.getElem_cons_succ, List.getElem_cons_zero, Act.put, List.setIfInBounds_toArray, List.set_cons_zero, List.set_cons_succ]
        refine wpAnyH_ready (rs := [4, 5]) (by kernel_rfl) (by simp) ?_
        refine AllReadyH.cons rfl (fun K hK => ?_) (AllReadyH.cons rfl (fun K hK => ?_) (AllReadyH.nil))
        · skip
          have hHeld' := hHeld
          try dsimp only at hHeld'
          go_split_ands
          go_simp
          refine hK.out _ _ ?_ (fun hHeld => ?_)
          · exact (KX.out _ (hq.out.al (.cells #[.int .i64 0, .int .i64 0, .int .i64 0] 55)))
          clear hK K
          try simp only [List.getElem_toArray, List.getElem_cons_succ, List.getElem_cons_zero, Act.put, List.setIfInBounds_toArray, List.set_cons_zero, List.set_cons_succ]
          have fx := heap_alloc_new z2 (oR 0 0 0)
          have hn := (Bl.rfl' z2).al (.cells #[.int .i64 0, .int .i64 0, .int .i64 0] 55)
          obtain ⟨px, hp⟩ : ∃ q, z2.heap.size = q := ⟨_, rfl⟩
          have hgex : z0.heap.size ≤ px := by rw [← hp]; exact hq.out.size
          obtain ⟨z3, hy⟩ : ∃ X, z2.alloc (.cells #[.int .i64 0, .int .i64 0, .int .i64 0] 55) = X := ⟨_, rfl⟩
          have hy' : z2.alloc (oR 0 0 0) = z3 := hy
          rw [hp]
          rw [hp, hy'] at fx
          rw [hy] at hHeld hn ⊢
          replace fx := Lib.hid fx
          clear hy hy'
          replace hq := Lib.hid (hq.out.tr hn)
          clear hn hp
          refine wpAnyH_ready (rs := [5]) (by kernel_rfl) (by simp) ?_
          refine AllReadyH.cons rfl (fun K hK => ?_) AllReadyH.nil
          have hHeld' := hHeld
          try dsimp only at hHeld'
          go_split_ands
          go_simp
          refine hK.out _ _ ?_ (fun hHeld => ?_)
          · exact (KX.out _ (hq.out.al (.cells #[.int .i64 0, .int .i64 0, .int .i64 0] 55)))
          clear hK K
          try simp only [List.getElem_toArray, List.getElem_cons_succ, List.getElem_cons_zero, Act.put, List.setIfInBounds_toArray, List.set_cons_zero, List.set_cons_succ]
          have fy := heap_alloc_new z3 (oR 0 0 0)
          have hn := (Bl.rfl' z3).al (.cells #[.int .i64 0, .int .i64 0, .int .i64 0] 55)
          obtain ⟨py, hp⟩ : ∃ q, z3.heap.size = q := ⟨_, rfl⟩
          have hgey : z0.heap.size ≤ py := by rw [← hp]; exact hq.out.size
          obtain ⟨z4, hy⟩ : ∃ X, z3.alloc (.cells #[.int .i64 0, .int .i64 0, .int .i64 0] 55) = X := ⟨_, rfl⟩
          have hy' : z3.alloc (oR 0 0 0) = z4 := hy
          rw [hp]
          rw [hp, hy'] at fy
          rw [hy] at hHeld hn ⊢
          replace fy := Lib.hid fy
          clear hy hy'
          have hne : px ≠ py := by have := lt_of_block fx.out; omega
          replace fx := Lib.hid (blk_bl fx.out hn)
          replace hq := Lib.hid (hq.out.tr hn)
          clear hn hp
          have e0 := cell_at fx.out 0
          have e1 := cell_at fx.out 1
          have e2 := cell_at fx.out 2
          simp only [List.getElem?_toArray, List.getElem?_cons_succ, List.getElem?_cons_zero] at e0 e1 e2
          have ef := free_at fx.out
          have hgs := three_bl z4 px A B C
          have fn := three_set fx.out A B C
          obtain ⟨z5, hst⟩ : ∃ X, (((z4.setCell ⟨px, 0, none⟩ (I A)).setCell ⟨px, 1, none⟩ (I B)).setCell ⟨px, 2, none⟩ (I C)) = X := ⟨_, rfl⟩
          rw [hst] at hgs fn
          refine wpAnyH_ready (rs := [6]) (by kernel_rfl) (by simp) ?_
          refine AllReadyH.cons rfl (fun K hK => ?_) AllReadyH.nil
          have hHeld' := hHeld
          try dsimp only at hHeld'
          go_split_ands
          go_simp
          replace fy := Lib.hid ((hgs.block _ (lt_of_block fy.out) (fun e => by cases e; omega)).trans fy.out)
          replace hq := Lib.hid (hq.out.gp hgs (by omega))
          clear hgs hst e0 e1 e2 ef fx
          have fx := Lib.hid fn
          clear fn
          refine hK.out _ _ ?_ (fun hHeld => ?_)
          · exact (KX.out _ hq.out)
          clear hK K
          try simp only [List.getElem_toArray, List.getElem_cons_succ, List.getElem_cons_zero, Act.put, List.setIfInBounds_toArray, List.set_cons_zero, List.set_cons_succ]
          have e0 := cell_at fy.out 0
          have e1 := cell_at fy.out 1
          have e2 := cell_at fy.out 2
          simp only [List.getElem?_toArray, List.getElem?_cons_succ, List.getElem?_cons_zero] at e0 e1 e2
          have ef := free_at fy.out
          have hgs := three_bl z5 py D E F
          have fn := three_set fy.out D E F
          obtain ⟨z6, hst⟩ : ∃ X, (((z5.setCell ⟨py, 0, none⟩ (I D)).setCell ⟨py, 1, none⟩ (I E)).setCell ⟨py, 2, none⟩ (I F)) = X := ⟨_, rfl⟩
          rw [hst] at hgs fn
          refine wpAnyH_ready (rs := [7]) (by kernel_rfl) (by simp) ?_
          refine AllReadyH.cons rfl (fun K hK => ?_) AllReadyH.nil
          have hHeld' := hHeld
          try dsimp only at hHeld'
          go_split_ands
          go_simp
          replace fx := Lib.hid ((hgs.block _ (lt_of_block fx.out) (fun e => by cases e; omega)).trans fx.out)
          replace hq := Lib.hid (hq.out.gp hgs (by omega))
          clear hgs hst e0 e1 e2 ef fy
          have fy := Lib.hid fn
          clear fn
          refine hK.out _ _ ?_ (fun hHeld => ?_)
          · exact (KX.out _ hq.out)
          clear hK K
          try simp only [List.getElem_toArray, List.getElem_cons_succ, List.getElem_cons_zero, Act.put, List.setIfInBounds_toArray, List.set_cons_zero, List.set_cons_succ]
          refine wpAnyH_done (by kernel_rfl) ?_ _
          go_wp2_with fail
          go_meet
          case rel => exact ⟨px, py, rfl, rfl, fx.out, fy.out, hb0.out.tr hq.out⟩
        · skip
          have hHeld' := hHeld
          try dsimp only at hHeld'
          go_split_ands
          go_simp
          refine hK.out _ _ ?_ (fun hHeld => ?_)
          · exact (KX.out _ (hq.out.al (.cells #[.int .i64 0, .int .i64 0, .int .i64 0] 55)))
          clear hK K
          try simp only [List.getElem_toArray, List.getElem_cons_succ, List.getElem_cons_zero, Act.put, List.setIfInBounds_toArray, List.set_cons_zero, List.set_cons_succ]
          have fy := heap_alloc_new z2 (oR 0 0 0)
          have hn := (Bl.rfl' z2).al (.cells #[.int .i64 0, .int .i64 0, .int .i64 0] 55)
          obtain ⟨py, hp⟩ : ∃ q, z2.heap.size = q := ⟨_, rfl⟩
          have hgey : z0.heap.size ≤ py := by rw [← hp]; exact hq.out.size
          obtain ⟨z3, hy⟩ : ∃ X, z2.alloc (.cells #[.int .i64 0, .int .i64 0, .int .i64 0] 55) = X := ⟨_, rfl⟩
          have hy' : z2.alloc (oR 0 0 0) = z3 := hy
          rw [hp]
          rw [hp, hy'] at fy
          rw [hy] at hHeld hn ⊢
          replace fy := Lib.hid fy
          clear hy hy'
          replace hq := Lib.hid (hq.out.tr hn)
          clear hn hp
          refine wpAnyH_ready (rs := [4]) (by kernel_rfl) (by simp) ?_
          refine AllReadyH.cons rfl (fun K hK => ?_) AllReadyH.nil
          have hHeld' := hHeld
          try dsimp only at hHeld'
          go_split_ands
          go_simp
          refine hK.out _ _ ?_ (fun hHeld => ?_)
          · exact (KX.out _ (hq.out.al (.cells #[.int .i64 0, .int .i64 0, .int .i64 0] 55)))
          clear hK K
          try simp only [List.getElem_toArray, List.getElem_cons_succ, List.getElem_cons_zero, Act.put, List.setIfInBounds_toArray, List.set_cons_zero, List.set_cons_succ]
          have fx := heap_alloc_new z3 (oR 0 0 0)
          have hn := (Bl.rfl' z3).al (.cells #[.int .i64 0, .int .i64 0, .int .i64 0] 55)
          obtain ⟨px, hp⟩ : ∃ q, z3.heap.size = q := ⟨_, rfl⟩
          have hgex : z0.heap.size ≤ px := by rw [← hp]; exact hq.out.size
          obtain ⟨z4, hy⟩ : ∃ X, z3.alloc (.cells #[.int .i64 0, .int .i64 0, .int .i64 0] 55) = X := ⟨_, rfl⟩
          have hy' : z3.alloc (oR 0 0 0) = z4 := hy
          rw [hp]
          rw [hp, hy'] at fx
          rw [hy] at hHeld hn ⊢
          replace fx := Lib.hid fx
          clear hy hy'
          have hne : px ≠ py := by have := lt_of_block fy.out; omega
          replace fy := Lib.hid (blk_bl fy.out hn)
          replace hq := Lib.hid (hq.out.tr hn)
          clear hn hp
          have e0 := cell_at fx.out 0
          have e1 := cell_at fx.out 1
          have e2 := cell_at fx.out 2
          simp only [List.getElem?_toArray, List.getElem?_cons_succ, List.getElem?_cons_zero] at e0 e1 e2
          have ef := free_at fx.out
          have hgs := three_bl z4 px A B C
          have fn := three_set fx.out A B C
          obtain ⟨z5, hst⟩ : ∃ X, (((z4.setCell ⟨px, 0, none⟩ (I A)).setCell ⟨px, 1, none⟩ (I B)).setCell ⟨px, 2, none⟩ (I C)) = X := ⟨_, rfl⟩
          rw [hst] at hgs fn
          refine wpAnyH_ready (rs := [6]) (by kernel_rfl) (by simp) ?_
          refine AllReadyH.cons rfl (fun K hK => ?_) AllReadyH.nil
          have hHeld' := hHeld
          try dsimp only at hHeld'
          go_split_ands
          go_simp
          replace fy := Lib.hid ((hgs.block _ (lt_of_block fy.out) (fun e => by cases e; omega)).trans fy.out)
          replace hq := Lib.hid (hq.out.gp hgs (by omega))
          clear hgs hst e0 e1 e2 ef fx
          have fx := Lib.hid fn
          clear fn
          refine hK.out _ _ ?_ (fun hHeld => ?_)
          · exact (KX.out _ hq.out)
          clear hK K
          try simp only [List.getElem_toArray, List.getElem_cons_succ, List.getElem_cons_zero, Act.put, List.setIfInBounds_toArray, List.set_cons_zero, List.set_cons_succ]
          have e0 := cell_at fy.out 0
          have e1 := cell_at fy.out 1
          have e2 := cell_at fy.out 2
          simp only [List.getElem?_toArray, List.getElem?_cons_succ, List.getElem?_cons_zero] at e0 e1 e2
          have ef := free_at fy.out
          have hgs := three_bl z5 py D E F
          have fn := three_set fy.out D E F
          obtain ⟨z6, hst⟩ : ∃ X, (((z5.setCell ⟨py, 0, none⟩ (I D)).setCell ⟨py, 1, none⟩ (I E)).setCell ⟨py, 2, none⟩ (I F)) = X := ⟨_, rfl⟩
          rw [hst] at hgs fn
          refine wpAnyH_ready (rs := [7]) (by kernel_rfl) (by simp) ?_
          refine AllReadyH.cons rfl (fun K hK => ?_) AllReadyH.nil
          have hHeld' := hHeld
          try dsimp only at hHeld'
          go_split_ands
          go_simp
          replace fx := Lib.hid ((hgs.block _ (lt_of_block fx.out) (fun e => by cases e; omega)).trans fx.out)
          replace hq := Lib.hid (hq.out.gp hgs (by omega))
          clear hgs hst e0 e1 e2 ef fy
          have fy := Lib.hid fn
          clear fn
          refine hK.out _ _ ?_ (fun hHeld => ?_)
          · exact (KX.out _ hq.out)
          clear hK K
          try simp only [List.getElem_toArray, List.getElem_cons_succ, List.getElem_cons_zero, Act.put, List.setIfInBounds_toArray, List.set_cons_zero, List.set_cons_succ]
          refine wpAnyH_done (by kernel_rfl) ?_ _
          go_wp2_with fail
          go_meet
          case rel => exact ⟨px, py, rfl, rfl, fx.out, fy.out, hb0.out.tr hq.out⟩
      · skip
        have hHeld' := hHeld
        try dsimp only at hHeld'
        go_split_ands
        go_simp
        refine hK.out _ _ ?_ (fun hHeld => ?_)
        · exact (KX.out _ (hq.out.al (.cells #[.int .i64 0, .int .i64 0, .int .i64 0] 55)))
        clear hK K
        try simp only [List.getElem_toArray, List.getElem_cons_succ, List.getElem_cons_zero, Act.put, List.setIfInBounds_toArray, List.set_cons_zero, List.set_cons_succ]
        have fx := heap_alloc_new z1 (oR 0 0 0)
        have hn := (Bl.rfl' z1).al (.cells #[.int .i64 0, .int .i64 0, .int .i64 0] 55)
        obtain ⟨px, hp⟩ : ∃ q, z1.heap.size = q := ⟨_, rfl⟩
        have hgex : z0.heap.size ≤ px := by rw [← hp]; exact hq.out.size
        obtain ⟨z2, hy⟩ : ∃ X, z1.alloc (.cells #[.int .i64 0, .int .i64 0, .int .i64 0] 55) = X := ⟨_, rfl⟩
        have hy' : z1.alloc (oR 0 0 0) = z2 := hy
        rw [hp]
        rw [hp, hy'] at fx
        rw [hy] at hHeld hn ⊢
        replace fx := Lib.hid fx
        clear hy hy'
        replace hq := Lib.hid (hq.out.tr hn)
        clear hn hp
        refine wpAnyH_ready (rs := [3, 5]) (by kernel_rfl) (by simp) ?_
        refine AllReadyH.cons rfl (fun K hK => ?_) (AllReadyH.cons rfl (fun K hK => ?_) (AllReadyH.nil))
        · skip
          have hHeld' := hHeld
          try dsimp only at hHeld'
          go_split_ands
          go_simp
          refine (R3.out z2).mono ?_
          rintro e z3 ⟨rfl, hn⟩
          replace fx := Lib.hid (blk_bl fx.out hn)
          replace hq := Lib.hid (hq.out.tr hn)
          clear hn
          refine hK.out _ _ ?_ (fun hHeld => ?_)
          · exact (KX.out _ hq.out)
          clear hK K
          try simp only [List.getElem_toArray, List.getElem_cons_succ, List.getElem_cons_zero, Act.put, List.setIfInBounds_toArray, List.set_cons_zero, List.set_cons_succ]
          refine wpAnyH_ready (rs := [5]) (by kernel_rfl) (by simp) ?_
          refine AllReadyH.cons rfl (fun K hK => ?_) AllReadyH.nil
          have hHeld' := hHeld
          try dsimp only at hHeld'
          go_split_ands
          go_simp
          refine hK.out _ _ ?_ (fun hHeld => ?_)
          · exact (KX.out _ (hq.out.al (.cells #[.int .i64 0, .int .i64 0, .int .i64 0] 55)))
          clear hK K
          try simp only [List.getElem_toArray, List.getElem_cons_succ, List.getElem_cons_zero, Act.put, List.setIfInBounds_toArray, List.set_cons_zero, List.set_cons_succ]
          have fy := heap_alloc_new z3 (oR 0 0 0)
          have hn := (Bl.rfl' z3).al (.cells #[.int .i64 0, .int .i64 0, .int .i64 0] 55)
          obtain ⟨py, hp⟩ : ∃ q, z3.heap.size = q := ⟨_, rfl⟩
          have hgey : z0.heap.size ≤ py := by rw [← hp]; exact hq.out.size
          obtain ⟨z4, hy⟩ : ∃ X, z3.alloc (.cells #[.int .i64 0, .int .i64 0, .int .i64 0] 55) = X := ⟨_, rfl⟩
          have hy' : z3.alloc (oR 0 0 0) = z4 := hy
          rw [hp]
          rw [hp, hy'] at fy
          rw [hy] at hHeld hn ⊢
          replace fy := Lib.hid fy
          clear hy hy'
          have hne : px ≠ py := by have := lt_of_block fx.out; omega
          replace fx := Lib.hid (blk_bl fx.out hn)
          replace hq := Lib.hid (hq.out.tr hn)
          clear hn hp
          have e0 := cell_at fx.out 0
          have e1 := cell_at fx.out 1
          have e2 := cell_at fx.out 2
          simp only [List.getElem?_toArray, List.getElem?_cons_succ, List.getElem?_cons_zero] at e0 e1 e2
          have ef := free_at fx.out
          have hgs := three_bl z4 px A B C
          have fn := three_set fx.out A B C
          obtain ⟨z5, hst⟩ : ∃ X, (((z4.setCell ⟨px, 0, none⟩ (I A)).setCell ⟨px, 1, none⟩ (I B)).setCell ⟨px, 2, none⟩ (I C)) = X := ⟨_, rfl⟩
          rw [hst] at hgs fn
          refine wpAnyH_ready (rs := [6]) (by kernel_rfl) (by simp) ?_
          refine AllReadyH.cons rfl (fun K hK => ?_) AllReadyH.nil
          have hHeld' := hHeld
          try dsimp only at hHeld'
          go_split_ands
          go_simp
          replace fy := Lib.hid ((hgs.block _ (lt_of_block fy.out) (fun e => by cases e; omega)).trans fy.out)
          replace hq := Lib.hid (hq.out.gp hgs (by omega))
          clear hgs hst e0 e1 e2 ef fx
          have fx := Lib.hid fn
          clear fn
          refine hK.out _ _ ?_ (fun hHeld => ?_)
          · exact (KX.out _ hq.out)
          clear hK K
          try simp only [List.getElem_toArray, List.getElem_cons_succ, List.getElem_cons_zero, Act.put, List.setIfInBounds_toArray, List.set_cons_zero, List.set_cons_succ]
          have e0 := cell_at fy.out 0
          have e1 := cell_at fy.out 1
          have e2 := cell_at fy.out 2
          simp only [List.getElem?_toArray, List.getElem?_cons_succ, List.getElem?_cons_zero] at e0 e1 e2
          have ef := free_at fy.out
          have hgs := three_bl z5 py D E F
          have fn := three_set fy.out D E F
          obtain ⟨z6, hst⟩ : ∃ X, (((z5.setCell ⟨py, 0, none⟩ (I D)).setCell ⟨py, 1, none⟩ (I E)).setCell ⟨py, 2, none⟩ (I F)) = X := ⟨_, rfl⟩
          rw [hst] at hgs fn
          refine wpAnyH_ready (rs := [7]) (by kernel_rfl) (by simp) ?_
          refine AllReadyH.cons rfl (fun K hK => ?_) AllReadyH.nil
          have hHeld' := hHeld
          try dsimp only at hHeld'
          go_split_ands
          go_simp
          replace fx := Lib.hid ((hgs.block _ (lt_of_block fx.out) (fun e => by cases e; omega)).trans fx.out)
          replace hq := Lib.hid (hq.out.gp hgs (by omega))
          clear hgs hst e0 e1 e2 ef fy
          have fy := Lib.hid fn
          clear fn
          refine hK.out _ _ ?_ (fun hHeld => ?_)
          · exact (KX.out _ hq.out)
          clear hK K
          try simp only [List.getElem_toArray, List.getElem_cons_succ, List.getElem_cons_zero, Act.put, List.setIfInBounds_toArray, List.set_cons_zero, List.set_cons_succ]
          refine wpAnyH_done (by kernel_rfl) ?_ _
          go_wp2_with fail
          go_meet
          case rel => exact ⟨px, py, rfl, rfl, fx.out, fy.out, hb0.out.tr hq.out⟩
        · skip
          have hHeld' := hHeld
          try dsimp only at hHeld'
          go_split_ands
          go_simp
          refine hK.out _ _ ?_ (fun hHeld => ?_)
          · exact (KX.out _ (hq.out.al (.cells #[.int .i64 0, .int .i64 0, .int .i64 0] 55)))
          clear hK K
          try simp only [List.getElem_toArray, List.getElem_cons_succ, List.getElem_cons_zero, Act.put, List.setIfInBounds_toArray, List.set_cons_zero, List.set_cons_succ]
          have fy := heap_alloc_new z2 (oR 0 0 0)
          have hn := (Bl.rfl' z2).al (.cells #[.int .i64 0, .int .i64 0, .int .i64 0] 55)
          obtain ⟨py, hp⟩ : ∃ q, z2.heap.size = q := ⟨_, rfl⟩
          have hgey : z0.heap.size ≤ py := by rw [← hp]; exact hq.out.size
          obtain ⟨z3, hy⟩ : ∃ X, z2.alloc (.cells #[.int .i64 0, .int .i64 0, .int .i64 0] 55) = X := ⟨_, rfl⟩
          have hy' : z2.alloc (oR 0 0 0) = z3 := hy
          rw [hp]
          rw [hp, hy'] at fy
          rw [hy] at hHeld hn ⊢
          replace fy := Lib.hid fy
          clear hy hy'
          have hne : px ≠ py := by have := lt_of_block fx.out; omega
          replace fx := Lib.hid (blk_bl fx.out hn)
          replace hq := Lib.hid (hq.out.tr hn)
          clear hn hp
          refine wpAnyH_ready (rs := [3]) (by kernel_rfl) (by simp) ?_
          refine AllReadyH.cons rfl (fun K hK => ?_) AllReadyH.nil
          have hHeld' := hHeld
          try dsimp only at hHeld'
          go_split_ands
          go_simp
          refine (R3.out z3).mono ?_
          rintro e z4 ⟨rfl, hn⟩
          replace fx := Lib.hid (blk_bl fx.out hn)
          replace fy := Lib.hid (blk_bl fy.out hn)
          replace hq := Lib.hid (hq.out.tr hn)
          clear hn
          refine hK.out _ _ ?_ (fun hHeld => ?_)
          · exact (KX.out _ hq.out)
          clear hK K
          try simp only [List.getElem_toArray, List.getElem_cons_succ, List.getElem_cons_zero, Act.put, List.setIfInBounds_toArray, List.set_cons_zero, List.set_cons_succ]
          have e0 := cell_at fx.out 0
          have e1 := cell_at fx.out 1
          have e2 := cell_at fx.out 2
          simp only [List.getElem?_toArray, List.getElem?_cons_succ, List.getElem?_cons_zero] at e0 e1 e2
          have ef := free_at fx.out
          have hgs := three_bl z4 px A B C
          have fn := three_set fx.out A B C
          obtain ⟨z5, hst⟩ : ∃ X, (((z4.setCell ⟨px, 0, none⟩ (I A)).setCell ⟨px, 1, none⟩ (I B)).setCell ⟨px, 2, none⟩ (I C)) = X := ⟨_, rfl⟩
          rw [hst] at hgs fn
          refine wpAnyH_ready (rs := [6]) (by kernel_rfl) (by simp) ?_
          refine AllReadyH.cons rfl (fun K hK => ?_) AllReadyH.nil
          have hHeld' := hHeld
          try dsimp only at hHeld'
          go_split_ands
          go_simp
          replace fy := Lib.hid ((hgs.block _ (lt_of_block fy.out) (fun e => by cases e; omega)).trans fy.out)
          replace hq := Lib.hid (hq.out.gp hgs (by omega))
          clear hgs hst e0 e1 e2 ef fx
          have fx := Lib.hid fn
          clear fn
          refine hK.out _ _ ?_ (fun hHeld => ?_)
          · exact (KX.out _ hq.out)
          clear hK K
          try simp only [List.getElem_toArray, List.getElem_cons_succ, List.getElem_cons_zero, Act.put, List.setIfInBounds_toArray, List.set_cons_zero, List.set_cons_succ]
          have e0 := cell_at fy.out 0
          have e1 := cell_at fy.out 1
          have e2 := cell_at fy.out 2
          simp only [List.getElem?_toArray, List.getElem?_cons_succ, List.getElem?_cons_zero] at e0 e1 e2
          have ef := free_at fy.out
          have hgs := three_bl z5 py D E F
          have fn := three_set fy.out D E F
          obtain ⟨z6, hst⟩ : ∃ X, (((z5.setCell ⟨py, 0, none⟩ (I D)).setCell ⟨py, 1, none⟩ (I E)).setCell ⟨py, 2, none⟩ (I F)) = X := ⟨_, rfl⟩
          rw [hst] at hgs fn
          refine wpAnyH_ready (rs := [7]) (by kernel_rfl) (by simp) ?_
          refine AllReadyH.cons rfl (fun K hK => ?_) AllReadyH.nil
          have hHeld' := hHeld
          try dsimp only at hHeld'
          go_split_ands
          go_simp
          replace fx := Lib.hid ((hgs.block _ (lt_of_block fx.out) (fun e => by cases e; omega)).trans fx.out)
          replace hq := Lib.hid (hq.out.gp hgs (by omega))
          clear hgs hst e0 e1 e2 ef fy
          have fy := Lib.hid fn
          clear fn
          refine hK.out _ _ ?_ (fun hHeld => ?_)
          · exact (KX.out _ hq.out)
          clear hK K
          try simp only [List.getElem_toArray, List.getElem_cons_succ, List.getElem_cons_zero, Act.put, List.setIfInBounds_toArray, List.set_cons_zero, List.set_cons_succ]
          refine wpAnyH_done (by kernel_rfl) ?_ _
          go_wp2_with fail
          go_meet
          case rel => exact ⟨px, py, rfl, rfl, fx.out, fy.out, hb0.out.tr hq.out⟩
      · skip
        have hHeld' := hHeld
        try dsimp only at hHeld'
        go_split_ands
        go_simp
        refine hK.out _ _ ?_ (fun hHeld => ?_)
        · exact (KX.out _ (hq.out.al (.cells #[.int .i64 0, .int .i64 0, .int .i64 0] 55)))
        clear hK K
        try simp only [List.getElem_toArray, List.getElem_cons_succ, List.getElem_cons_zero, Act.put, List.setIfInBounds_toArray, List.set_cons_zero, List.set_cons_succ]
        have fy := heap_alloc_new z1 (oR 0 0 0)
        have hn := (Bl.rfl' z1).al (.cells #[.int .i64 0, .int .i64 0, .int .i64 0] 55)
        obtain ⟨py, hp⟩ : ∃ q, z1.heap.size = q := ⟨_, rfl⟩
        have hgey : z0.heap.size ≤ py := by rw [← hp]; exact hq.out.size
        obtain ⟨z2, hy⟩ : ∃ X, z1.alloc (.cells #[.int .i64 0, .int .i64 0, .int .i64 0] 55) = X := ⟨_, rfl⟩
        have hy' : z1.alloc (oR 0 0 0) = z2 := hy
        rw [hp]
        rw [hp, hy'] at fy
        rw [hy] at hHeld hn ⊢
        replace fy := Lib.hid fy
        clear hy hy'
        replace hq := Lib.hid (hq.out.tr hn)
        clear hn hp
        refine wpAnyH_ready (rs := [3, 4]) (by kernel_rfl) (by simp) ?_
        refine AllReadyH.cons rfl (fun K hK => ?_) (AllReadyH.cons rfl (fun K hK => ?_) (AllReadyH.nil))
        · skip
          have hHeld' := hHeld
          try dsimp only at hHeld'
          go_split_ands
          go_simp
          refine (R3.out z2).mono ?_
          rintro e z3 ⟨rfl, hn⟩
          replace fy := Lib.hid (blk_bl fy.out hn)
          replace hq := Lib.hid (hq.out.tr hn)
          clear hn
          refine hK.out _ _ ?_ (fun hHeld => ?_)
          · exact (KX.out _ hq.out)
          clear hK K
          try simp only [List.getElem_toArray, List.getElem_cons_succ, List.getElem_cons_zero, Act.put, List.setIfInBounds_toArray, List.set_cons_zero, List.set_cons_succ]
          refine wpAnyH_ready (rs := [4]) (by kernel_rfl) (by simp) ?_
          refine AllReadyH.cons rfl (fun K hK => ?_) AllReadyH.nil
          have hHeld' := hHeld
          try dsimp only at hHeld'
          go_split_ands
          go_simp
          refine hK.out _ _ ?_ (fun hHeld => ?_)
          · exact (KX.out _ (hq.out.al (.cells #[.int .i64 0, .int .i64 0, .int .i64 0] 55)))
          clear hK K
          try simp only [List.getElem_toArray, List.getElem_cons_succ, List.getElem_cons_zero, Act.put, List.setIfInBounds_toArray, List.set_cons_zero, List.set_cons_succ]
          have fx := heap_alloc_new z3 (oR 0 0 0)
          have hn := (Bl.rfl' z3).al (.cells #[.int .i64 0, .int .i64 0, .int .i64 0] 55)
          obtain ⟨px, hp⟩ : ∃ q, z3.heap.size = q := ⟨_, rfl⟩
          have hgex : z0.heap.size ≤ px := by rw [← hp]; exact hq.out.size
          obtain ⟨z4, hy⟩ : ∃ X, z3.alloc (.cells #[.int .i64 0, .int .i64 0, .int .i64 0] 55) = X := ⟨_, rfl⟩
          have hy' : z3.alloc (oR 0 0 0) = z4 := hy
          rw [hp]
          rw [hp, hy'] at fx
          rw [hy] at hHeld hn ⊢
          replace fx := Lib.hid fx
          clear hy hy'
          have hne : px ≠ py := by have := lt_of_block fy.out; omega
          replace fy := Lib.hid (blk_bl fy.out hn)
          replace hq := Lib.hid (hq.out.tr hn)
          clear hn hp
          have e0 := cell_at fx.out 0
          have e1 := cell_at fx.out 1
          have e2 := cell_at fx.out 2
          simp only [List.getElem?_toArray, List.getElem?_cons_succ, List.getElem?_cons_zero] at e0 e1 e2
          have ef := free_at fx.out
          have hgs := three_bl z4 px A B C
          have fn := three_set fx.out A B C
          obtain ⟨z5, hst⟩ : ∃ X, (((z4.setCell ⟨px, 0, none⟩ (I A)).setCell ⟨px, 1, none⟩ (I B)).setCell ⟨px, 2, none⟩ (I C)) = X := ⟨_, rfl⟩
          rw [hst] at hgs fn
          refine wpAnyH_ready (rs := [6]) (by kernel_rfl) (by simp) ?_
          refine AllReadyH.cons rfl (fun K hK => ?_) AllReadyH.nil
          have hHeld' := hHeld
          try dsimp only at hHeld'
          go_split_ands
          go_simp
          replace fy := Lib.hid ((hgs.block _ (lt_of_block fy.out) (fun e => by cases e; omega)).trans fy.out)
          replace hq := Lib.hid (hq.out.gp hgs (by omega))
          clear hgs hst e0 e1 e2 ef fx
          have fx := Lib.hid fn
          clear fn
          refine hK.out _ _ ?_ (fun hHeld => ?_)
          · exact (KX.out _ hq.out)
          clear hK K
          try simp only [List.getElem_toArray, List.getElem_cons_succ, List.getElem_cons_zero, Act.put, List.setIfInBounds_toArray, List.set_cons_zero, List.set_cons_succ]
          have e0 := cell_at fy.out 0
          have e1 := cell_at fy.out 1
          have e2 := cell_at fy.out 2
          simp only [List.getElem?_toArray, List.getElem?_cons_succ, List.getElem?_cons_zero] at e0 e1 e2
          have ef := free_at fy.out
          have hgs := three_bl z5 py D E F
          have fn := three_set fy.out D E F
          obtain ⟨z6, hst⟩ : ∃ X, (((z5.setCell ⟨py, 0, none⟩ (I D)).setCell ⟨py, 1, none⟩ (I E)).setCell ⟨py, 2, none⟩ (I F)) = X := ⟨_, rfl⟩
          rw [hst] at hgs fn
          refine wpAnyH_ready (rs := [7]) (by kernel_rfl) (by simp) ?_
          refine AllReadyH.cons rfl (fun K hK => ?_) AllReadyH.nil
          have hHeld' := hHeld
          try dsimp only at hHeld'
          go_split_ands
          go_simp
          replace fx := Lib.hid ((hgs.block _ (lt_of_block fx.out) (fun e => by cases e; omega)).trans fx.out)
          replace hq := Lib.hid (hq.out.gp hgs (by omega))
          clear hgs hst e0 e1 e2 ef fy
          have fy := Lib.hid fn
          clear fn
          refine hK.out _ _ ?_ (fun hHeld => ?_)
          · exact (KX.out _ hq.out)
          clear hK K
          try simp only [List.getElem_toArray, List.getElem_cons_succ, List.getElem_cons_zero, Act.put, List.setIfInBounds_toArray, List.set_cons_zero, List.set_cons_succ]
          refine wpAnyH_done (by kernel_rfl) ?_ _
          go_wp2_with fail
          go_meet
          case rel => exact ⟨px, py, rfl, rfl, fx.out, fy.out, hb0.out.tr hq.out⟩
        · skip
          have hHeld' := hHeld
          try dsimp only at hHeld'
          go_split_ands
          go_simp
          refine hK.out _ _ ?_ (fun hHeld => ?_)
          · exact (KX.out _ (hq.out.al (.cells #[.int .i64 0, .int .i64 0, .int .i64 0] 55)))
          clear hK K
          try simp only [List.getElem_toArray, List.getElem_cons_succ, List.getElem_cons_zero, Act.put, List.setIfInBounds_toArray, List.set_cons_zero, List.set_cons_succ]
          have fx := heap_alloc_new z2 (oR 0 0 0)
          have hn := (Bl.rfl' z2).al (.cells #[.int .i64 0, .int .i64 0, .int .i64 0] 55)
          obtain ⟨px, hp⟩ : ∃ q, z2.heap.size = q := ⟨_, rfl⟩
          have hgex : z0.heap.size ≤ px := by rw [← hp]; exact hq.out.size
          obtain ⟨z3, hy⟩ : ∃ X, z2.alloc (.cells #[.int .i64 0, .int .i64 0, .int .i64 0] 55) = X := ⟨_, rfl⟩
          have hy' : z2.alloc (oR 0 0 0) = z3 := hy
          rw [hp]
          rw [hp, hy'] at fx
          rw [hy] at hHeld hn ⊢
          replace fx := Lib.hid fx
          clear hy hy'
          have hne : px ≠ py := by have := lt_of_block fy.out; omega
          replace fy := Lib.hid (blk_bl fy.out hn)
          replace hq := Lib.hid (hq.out.tr hn)
          clear hn hp
          refine wpAnyH_ready (rs := [3]) (by kernel_rfl) (by simp) ?_
          refine AllReadyH.cons rfl (fun K hK => ?_) AllReadyH.nil
          have hHeld' := hHeld
          try dsimp only at hHeld'
          go_split_ands
          go_simp
          refine (R3.out z3).mono ?_
          rintro e z4 ⟨rfl, hn⟩
          replace fx := Lib.hid (blk_bl fx.out hn)
          replace fy := Lib.hid (blk_bl fy.out hn)
          replace hq := Lib.hid (hq.out.tr hn)
          clear hn
          refine hK.out _ _ ?_ (fun hHeld => ?_)
          · exact (KX.out _ hq.out)
          clear hK K
          try simp only [List.getElem_toArray, List.getElem_cons_succ, List.getElem_cons_zero, Act.put, List.setIfInBounds_toArray, List.set_cons_zero, List.set_cons_succ]
          have e0 := cell_at fx.out 0
          have e1 := cell_at fx.out 1
          have e2 := cell_at fx.out 2
          simp only [List.getElem?_toArray, List.getElem?_cons_succ, List.getElem?_cons_zero] at e0 e1 e2
          have ef := free_at fx.out
          have hgs := three_bl z4 px A B C
          have fn := three_set fx.out A B C
          obtain ⟨z5, hst⟩ : ∃ X, (((z4.setCell ⟨px, 0, none⟩ (I A)).setCell ⟨px, 1, none⟩ (I B)).setCell ⟨px, 2, none⟩ (I C)) = X := ⟨_, rfl⟩
          rw [hst] at hgs fn
          refine wpAnyH_ready (rs := [6]) (by kernel_rfl) (by simp) ?_
          refine AllReadyH.cons rfl (fun K hK => ?_) AllReadyH.nil
          have hHeld' := hHeld
          try dsimp only at hHeld'
          go_split_ands
          go_simp
          replace fy := Lib.hid ((hgs.block _ (lt_of_block fy.out) (fun e => by cases e; omega)).trans fy.out)
          replace hq := Lib.hid (hq.out.gp hgs (by omega))
          clear hgs hst e0 e1 e2 ef fx
          have fx := Lib.hid fn
          clear fn
          refine hK.out _ _ ?_ (fun hHeld => ?_)
          · exact (KX.out _ hq.out)
          clear hK K
          try simp only [List.getElem_toArray, List.getElem_cons_succ, List.getElem_cons_zero, Act.put, List.setIfInBounds_toArray, List.set_cons_zero, List.set_cons_succ]
          have e0 := cell_at fy.out 0
          have e1 := cell_at fy.out 1
          have e2 := cell_at fy.out 2
          simp only [List.getElem?_toArray, List.getElem?_cons_succ, List.getElem?_cons_zero] at e0 e1 e2
          have ef := free_at fy.out
          have hgs := three_bl z5 py D E F
          have fn := three_set fy.out D E F
          obtain ⟨z6, hst⟩ : ∃ X, (((z5.setCell ⟨py, 0, none⟩ (I D)).setCell ⟨py, 1, none⟩ (I E)).setCell ⟨py, 2, none⟩ (I F)) = X := ⟨_, rfl⟩
          rw [hst] at hgs fn
          refine wpAnyH_ready (rs := [7]) (by kernel_rfl) (by simp) ?_
          refine AllReadyH.cons rfl (fun K hK => ?_) AllReadyH.nil
          have hHeld' := hHeld
          try dsimp only at hHeld'
          go_split_ands
          go_simp
          replace fx := Lib.hid ((hgs.block _ (lt_of_block fx.out) (fun e => by cases e; omega)).trans fx.out)
          replace hq := Lib.hid (hq.out.gp hgs (by omega))
          clear hgs hst e0 e1 e2 ef fy
          have fy := Lib.hid fn
          clear fn
          refine hK.out _ _ ?_ (fun hHeld => ?_)
          · exact (KX.out _ hq.out)
          clear hK K
          try simp only [List.getElem_toArray, List.getElem_cons_succ, List.getElem_cons_zero, Act.put, List.setIfInBounds_toArray, List.set_cons_zero, List.set_cons_succ]
          refine wpAnyH_done (by kernel_rfl) ?_ _
          go_wp2_with fail
          go_meet
          case rel => exact ⟨px, py, rfl, rfl, fx.out, fy.out, hb0.out.tr hq.out⟩
    · skip
      have hHeld' := hHeld
      try dsimp only at hHeld'
      go_split_ands
      go_simp
      refine hK.out _ _ ?_ (fun hHeld => ?_)
      · exact (KX.out _ (hq.out.al (.cells #[.int .i64 0, .int .i64 0, .int .i64 0] 55)))
      clear hK K
      try simp only [List.getElem_toArray, List.getElem_cons_succ, List.getElem_cons_zero, Act.put, List.setIfInBounds_toArray, List.set_cons_zero, List.set_cons_succ]
      have fx := heap_alloc_new z0 (oR 0 0 0)
      have hn := (Bl.rfl' z0).al (.cells #[.int .i64 0, .int .i64 0, .int .i64 0] 55)
      obtain ⟨px, hp⟩ : ∃ q, z0.heap.size = q := ⟨_, rfl⟩
      have hgex : z0.heap.size ≤ px := by rw [← hp]; exact hq.out.size
      obtain ⟨z1, hy⟩ : ∃ X, z0.alloc (.cells #[.int .i64 0, .int .i64 0, .int .i64 0] 55) = X := ⟨_, rfl⟩
      have hy' : z0.alloc (oR 0 0 0) = z1 := hy
      rw [hp]
      rw [hp, hy'] at fx
      rw [hy] at hHeld hn ⊢
      replace fx := Lib.hid fx
      clear hy hy'
      replace hq := Lib.hid (hq.out.tr hn)
      clear hn hp
      refine wpAnyH_ready (rs := [1, 5]) (by kernel_rfl) (by simp) ?_
      refine AllReadyH.cons rfl (fun K hK => ?_) (AllReadyH.cons rfl (fun K hK => ?_) (AllReadyH.nil))
      · skip
        have hHeld' := hHeld
        try dsimp only at hHeld'
        go_split_ands
        go_simp
        refine (R1.out z1).mono ?_
        rintro e z2 ⟨rfl, hn⟩
        replace fx := Lib.hid (blk_bl fx.out hn)
        replace hq := Lib.hid (hq.out.tr hn)
        clear hn
        refine hK.out _ _ ?_ (fun hHeld => ?_)
        · exact (KX.out _ hq.out)
        clear hK K
        try simp only [List.getElem_toArray, List.getElem_cons_succ, List.getElem_cons_zero, Act.put, List.setIfInBounds_toArray, List.set_cons_zero, List.set_cons_succ]
        refine wpAnyH_ready (rs := [3, 5]) (by kernel_rfl) (by simp) ?_
        refine AllReadyH.cons rfl (fun K hK => ?_) (AllReadyH.cons rfl (fun K hK => ?_) (AllReadyH.nil))
        · skip
          have hHeld' := hHeld
          try dsimp only at hHeld'
          go_split_ands
          go_simp
          refine (R3.out z2).mono ?_
          rintro e z3 ⟨rfl, hn⟩
          replace fx := Lib.hid (blk_bl fx.out hn)
          replace hq := Lib.hid (hq.out.tr hn)
          clear hn
          refine hK.out _ _ ?_ (fun hHeld => ?_)
          · exact (KX.out _ hq.out)
          clear hK K
          try simp only [List.getElem_toArray, List.getElem_cons_succ, List.getElem_cons_zero, Act.put, List.setIfInBounds_toArray, List.set_cons_zero, List.set_cons_succ]
          refine wpAnyH_ready (rs := [5]) (by kernel_rfl) (by simp) ?_
          refine AllReadyH.cons rfl (fun K hK => ?_) AllReadyH.nil
          have hHeld' := hHeld
          try dsimp only at hHeld'
          go_split_ands
          go_simp
          refine hK.out _ _ ?_ (fun hHeld => ?_)
          · exact (KX.out _ (hq.out.al (.cells #[.int .i64 0, .int .i64 0, .int .i64 0] 55)))
          clear hK K
          try simp only [List.getElem_toArray, List.getElem_cons_succ, List.getElem_cons_zero, Act.put, List.setIfInBounds_toArray, List.set_cons_zero, List.set_cons_succ]
          have fy := heap_alloc_new z3 (oR 0 0 0)
          have hn := (Bl.rfl' z3).al (.cells #[.int .i64 0, .int .i64 0, .int .i64 0] 55)
          obtain ⟨py, hp⟩ : ∃ q, z3.heap.size = q := ⟨_, rfl⟩
          have hgey : z0.heap.size ≤ py := by rw [← hp]; exact hq.out.size
          obtain ⟨z4, hy⟩ : ∃ X, z3.alloc (.cells #[.int .i64 0, .int .i64 0, .int .i64 0] 55) = X := ⟨_, rfl⟩
          have hy' : z3.alloc (oR 0 0 0) = z4 := hy
          rw [hp]
          rw [hp, hy'] at fy
          rw [hy] at hHeld hn ⊢
          replace fy := Lib.hid fy
          clear hy hy'
          have hne : px ≠ py := by have := lt_of_block fx.out; omega
          replace fx := Lib.hid (blk_bl fx.out hn)
          replace hq := Lib.hid (hq.out.tr hn)
          clear hn hp
          have e0 := cell_at fx.out 0
          have e1 := cell_at fx.out 1
          have e2 := cell_at fx.out 2
          simp only [List.getElem?_toArray, List.getElem?_cons_succ, List.getElem?_cons_zero] at e0 e1 e2
          have ef := free_at fx.out
          have hgs := three_bl z4 px A B C
          have fn := three_set fx.out A B C
          obtain ⟨z5, hst⟩ : ∃ X, (((z4.setCell ⟨px, 0, none⟩ (I A)).setCell ⟨px, 1, none⟩ (I B)).setCell ⟨px, 2, none⟩ (I C)) = X := ⟨_, rfl⟩
          rw [hst] at hgs fn
          refine wpAnyH_ready (rs := [6]) (by kernel_rfl) (by simp) ?_
          refine AllReadyH.cons rfl (fun K hK => ?_) AllReadyH.nil
          have hHeld' := hHeld
          try dsimp only at hHeld'
          go_split_ands
          go_simp
          replace fy := Lib.hid ((hgs.block _ (lt_of_block fy.out) (fun e => by cases e; omega)).trans fy.out)
          replace hq := Lib.hid (hq.out.gp hgs (by omega))
          clear hgs hst e0 e1 e2 ef fx
          have fx := Lib.hid fn
          clear fn
          refine hK.out _ _ ?_ (fun hHeld => ?_)
          · exact (KX.out _ hq.out)
          clear hK K
          try simp only [List.getElem_toArray, List.getElem_cons_succ, List.getElem_cons_zero, Act.put, List.setIfInBounds_toArray, List.set_cons_zero, List.set_cons_succ]
          have e0 := cell_at fy.out 0
          have e1 := cell_at fy.out 1
          have e2 := cell_at fy.out 2
          simp only [List.getElem?_toArray, List.getElem?_cons_succ, List.getElem?_cons_zero] at e0 e1 e2
          have ef := free_at fy.out
          have hgs := three_bl z5 py D E F
          have fn := three_set fy.out D E F
          obtain ⟨z6, hst⟩ : ∃ X, (((z5.setCell ⟨py, 0, none⟩ (I D)).setCell ⟨py, 1, none⟩ (I E)).setCell ⟨py, 2, none⟩ (I F)) = X := ⟨_, rfl⟩
          rw [hst] at hgs fn
          refine wpAnyH_ready (rs := [7]) (by kernel_rfl) (by simp) ?_
          refine AllReadyH.cons rfl (fun K hK => ?_) AllReadyH.nil
          have hHeld' := hHeld
          try dsimp only at hHeld'
          go_split_ands
          go_simp
          replace fx := Lib.hid ((hgs.block _ (lt_of_block fx.out) (fun e => by cases e; omega)).trans fx.out)
          replace hq := Lib.hid (hq.out.gp hgs (by omega))
          clear hgs hst e0 e1 e2 ef fy
          have fy := Lib.hid fn
          clear fn
          refine hK.out _ _ ?_ (fun hHeld => ?_)
          · exact (KX.out _ hq.out)
          clear hK K
          try simp only [List.getElem_toArray, List.getElem_cons_succ, List.getElem_cons_zero, Act.put, List.setIfInBounds_toArray, List.set_cons_zero, List.set_cons_succ]
          refine wpAnyH_done (by kernel_rfl) ?_ _
          go_wp2_with fail
          go_meet
          case rel => exact ⟨px, py, rfl, rfl, fx.out, fy.out, hb0.out.tr hq.out⟩
        · skip
          have hHeld' := hHeld
          try dsimp only at hHeld'
          go_split_ands
          go_simp
          refine hK.out _ _ ?_ (fun hHeld => ?_)
          · exact (KX.out _ (hq.out.al (.cells #[.int .i64 0, .int .i64 0, .int .i64 0] 55)))
          clear hK K
          try simp only [List.getElem_toArray, List.getElem_cons_succ, List.getElem_cons_zero, Act.put, List.setIfInBounds_toArray, List.set_cons_zero, List.set_cons_succ]
          have fy := heap_alloc_new z2 (oR 0 0 0)
          have hn := (Bl.rfl' z2).al (.cells #[.int .i64 0, .int .i64 0, .int .i64 0] 55)
          obtain ⟨py, hp⟩ : ∃ q, z2.heap.size = q := ⟨_, rfl⟩
          have hgey : z0.heap.size ≤ py := by rw [← hp]; exact hq.out.size
          obtain ⟨z3, hy⟩ : ∃ X, z2.alloc (.cells #[.int .i64 0, .int .i64 0, .int .i64 0] 55) = X := ⟨_, rfl⟩
          have hy' : z2.alloc (oR 0 0 0) = z3 := hy
          rw [hp]
          rw [hp, hy'] at fy
          rw [hy] at hHeld hn ⊢
          replace fy := Lib.hid fy
          clear hy hy'
          have hne : px ≠ py := by have := lt_of_block fx.out; omega
          replace fx := Lib.hid (blk_bl fx.out hn)
          replace hq := Lib.hid (hq.out.tr hn)
          clear hn hp
          refine wpAnyH_ready (rs := [3]) (by kernel_rfl) (by simp) ?_
          refine AllReadyH.cons rfl (fun K hK => ?_) AllReadyH.nil
          have hHeld' := hHeld
          try dsimp only at hHeld'
          go_split_ands
          go_simp
          refine (R3.out z3).mono ?_
          rintro e z4 ⟨rfl, hn⟩
          replace fx := Lib.hid (blk_bl fx.out hn)
          replace fy := Lib.hid (blk_bl fy.out hn)
          replace hq := Lib.hid (hq.out.tr hn)
          clear hn
          refine hK.out _ _ ?_ (fun hHeld => ?_)
          · exact (KX.out _ hq.out)
          clear hK K
          try simp only [List.getElem_toArray, List.getElem_cons_succ, List.getElem_cons_zero, Act.put, List.setIfInBounds_toArray, List.set_cons_zero, List.set_cons_succ]
          have e0 := cell_at fx.out 0
          have e1 := cell_at fx.out 1
          have e2 := cell_at fx.out 2
          simp only [List.getElem?_toArray, List.getElem?_cons_succ, List.getElem?_cons_zero] at e0 e1 e2
          have ef := free_at fx.out
          have hgs := three_bl z4 px A B C
          have fn := three_set fx.out A B C
          obtain ⟨z5, hst⟩ : ∃ X, (((z4.setCell ⟨px, 0, none⟩ (I A)).setCell ⟨px, 1, none⟩ (I B)).setCell ⟨px, 2, none⟩ (I C)) = X := ⟨_, rfl⟩
          rw [hst] at hgs fn
          refine wpAnyH_ready (rs := [6]) (by kernel_rfl) (by simp) ?_
          refine AllReadyH.cons rfl (fun K hK => ?_) AllReadyH.nil
          have hHeld' := hHeld
          try dsimp only at hHeld'
          go_split_ands
          go_simp
          replace fy := Lib.hid ((hgs.block _ (lt_of_block fy.out) (fun e => by cases e; omega)).trans fy.out)
          replace hq := Lib.hid (hq.out.gp hgs (by omega))
          clear hgs hst e0 e1 e2 ef fx
          have fx := Lib.hid fn
          clear fn
          refine hK.out _ _ ?_ (fun hHeld => ?_)
          · exact (KX.out _ hq.out)
          clear hK K
          try simp only [List.getElem_toArray, List.getElem_cons_succ, List.getElem_cons_zero, Act.put, List.setIfInBounds_toArray, List.set_cons_zero, List.set_cons_succ]
          have e0 := cell_at fy.out 0
          have e1 := cell_at fy.out 1
          have e2 := cell_at fy.out 2
          simp only [List.getElem?_toArray, List.getElem?_cons_succ, List.getElem?_cons_zero] at e0 e1 e2
          have ef := free_at fy.out
          have hgs := three_bl z5 py D E F
          have fn := three_set fy.out D E F
          obtain ⟨z6, hst⟩ : ∃ X, (((z5.setCell ⟨py, 0, none⟩ (I D)).setCell ⟨py, 1, none⟩ (I E)).setCell ⟨py, 2, none⟩ (I F)) = X := ⟨_, rfl⟩
          rw [hst] at hgs fn
          refine wpAnyH_ready (rs := [7]) (by kernel_rfl) (by simp) ?_
          refine AllReadyH.cons rfl (fun K hK => ?_) AllReadyH.nil
          have hHeld' := hHeld
          try dsimp only at hHeld'
          go_split_ands
          go_simp
          replace fx := Lib.hid ((hgs.block _ (lt_of_block fx.out) (fun e => by cases e; omega)).trans fx.out)
          replace hq := Lib.hid (hq.out.gp hgs (by omega))
          clear hgs hst e0 e1 e2 ef fy
          have fy := Lib.hid fn
          clear fn
          refine hK.out _ _ ?_ (fun hHeld => ?_)
          · exact (KX.out _ hq.out)
          clear hK K
          try simp only [List.getElem_toArray, List.getElem_cons_succ, List.getElem_cons_zero, Act.put, List.setIfInBounds_toArray, List.set_cons_zero, List.set_cons_succ]
          refine wpAnyH_done (by kernel_rfl) ?_ _
          go_wp2_with fail
          go_meet
          case rel => exact ⟨px, py, rfl, rfl, fx.out, fy.out, hb0.out.tr hq.out⟩
      · skip
        have hHeld' := hHeld
        try dsimp only at hHeld'
        go_split_ands
        go_simp
        refine hK.out _ _ ?_ (fun hHeld => ?_)
        · exact (KX.out _ (hq.out.al (.cells #[.int .i64 0, .int .i64 0, .int .i64 0] 55)))
        clear hK K
        try simp only [List.getElem_toArray, List.getElem_cons_succ, List.getElem_cons_zero, Act.put, List.setIfInBounds_toArray, List.set_cons_zero, List.set_cons_succ]
        have fy := heap_alloc_new z1 (oR 0 0 0)
        have hn := (Bl.rfl' z1).al (.cells #[.int .i64 0, .int .i64 0, .int .i64 0] 55)
        obtain ⟨py, hp⟩ : ∃ q, z1.heap.size = q := ⟨_, rfl⟩
        have hgey : z0.heap.size ≤ py := by rw [← hp]; exact hq.out.size
        obtain ⟨z2, hy⟩ : ∃ X, z1.alloc (.cells #[.int .i64 0, .int .i64 0, .int .i64 0] 55) = X := ⟨_, rfl⟩
        have hy' : z1.alloc (oR 0 0 0) = z2 := hy
        rw [hp]
        rw [hp, hy'] at fy
        rw [hy] at hHeld hn ⊢
        replace fy := Lib.hid fy
        clear hy hy'
        have hne : px ≠ py := by have := lt_of_block fx.out; omega
        replace fx := Lib.hid (blk_bl fx.out hn)
        replace hq := Lib.hid (hq.out.tr hn)
        clear hn hp
        refine wpAnyH_ready (rs := [1]) (by kernel_rfl) (by simp) ?_
        refine AllReadyH.cons rfl (fun K hK => ?_) AllReadyH.nil
        have hHeld' := hHeld
        try dsimp only at hHeld'
        go_split_ands
        go_simp
        refine (R1.out z2).mono ?_
        rintro e z3 ⟨rfl, hn⟩
        replace fx := Lib.hid (blk_bl fx.out hn)
        replace fy := Lib.hid (blk_bl fy.out hn)
        replace hq := Lib.hid (hq.out.tr hn)
        clear hn
        refine hK.out _ _ ?_ (fun hHeld => ?_)
        · exact (KX.out _ hq.out)
        clear hK K
        try simp only [List.getElem_toArray, List.getElem_cons_succ, List.getElem_cons_zero, Act.put, List.setIfInBounds_toArray, List.set_cons_zero, List.set_cons_succ]
        refine wpAnyH_ready (rs := [3]) (by kernel_rfl) (by simp) ?_
        refine AllReadyH.cons rfl (fun K hK => ?_) AllReadyH.nil
        have hHeld' := hHeld
        try dsimp only at hHeld'
        go_split_ands
        go_simp
        refine (R3.out z3).mono ?_
        rintro e z4 ⟨rfl, hn⟩
        replace fx := Lib.hid (blk_bl fx.out hn)
        replace fy := Lib.hid (blk_bl fy.out hn)
        replace hq := Lib.hid (hq.out.tr hn)
        clear hn
        refine hK.out _ _ ?_ (fun hHeld => ?_)
        · exact (KX.out _ hq.out)
        clear hK K
        try simp only [List.getElem_toArray, List.getElem_cons_succ, List.getElem_cons_zero, Act.put, List.setIfInBounds_toArray, List.set_cons_zero, List.set_cons_succ]
        have e0 := cell_at fx.out 0
        have e1 := cell_at fx.out 1
        have e2 := cell_at fx.out 2
        simp only [List.getElem?_toArray, List.getElem?_cons_succ, List.getElem?_cons_zero] at e0 e1 e2
        have ef := free_at fx.out
        have hgs := three_bl z4 px A B C
        have fn := three_set fx.out A B C
        obtain ⟨z5, hst⟩ : ∃ X, (((z4.setCell ⟨px, 0, none⟩ (I A)).setCell ⟨px, 1, none⟩ (I B)).setCell ⟨px, 2, none⟩ (I C)) = X := ⟨_, rfl⟩
        rw [hst] at hgs fn
        refine wpAnyH_ready (rs := [6]) (by kernel_rfl) (by simp) ?_
        refine AllReadyH.cons rfl (fun K hK => ?_) AllReadyH.nil
        have hHeld' := hHeld
        try dsimp only at hHeld'
        go_split_ands
        go_simp
        replace fy := Lib.hid ((hgs.block _ (lt_of_block fy.out) (fun e => by cases e; omega)).trans fy.out)
        replace hq := Lib.hid (hq.out.gp hgs (by omega))
        clear hgs hst e0 e1 e2 ef fx
        have fx := Lib.hid fn
        clear fn
        refine hK.out _ _ ?_ (fun hHeld => ?_)
        · exact (KX.out _ hq.out)
        clear hK K
        try simp only [List.getElem_toArray, List.getElem_cons_succ, List.getElem_cons_zero, Act.put, List.setIfInBounds_toArray, List.set_cons_zero, List.set_cons_succ]
        have e0 := cell_at fy.out 0
        have e1 := cell_at fy.out 1
        have e2 := cell_at fy.out 2
        simp only [List.getElem?_toArray, List.getElem?_cons_succ, List.getElem?_cons_zero] at e0 e1 e2
        have ef := free_at fy.out
        have hgs := three_bl z5 py D E F
        have fn := three_set fy.out D E F
        obtain ⟨z6, hst⟩ : ∃ X, (((z5.setCell ⟨py, 0, none⟩ (I D)).setCell ⟨py, 1, none⟩ (I E)).setCell ⟨py, 2, none⟩ (I F)) = X := ⟨_, rfl⟩
        rw [hst] at hgs fn
        refine wpAnyH_ready (rs := [7]) (by kernel_rfl) (by simp) ?_
        refine AllReadyH.cons rfl (fun K hK => ?_) AllReadyH.nil
        have hHeld' := hHeld
        try dsimp only at hHeld'
        go_split_ands
        go_simp
        replace fx := Lib.hid ((hgs.block _ (lt_of_block fx.out) (fun e => by cases e; omega)).trans fx.out)
        replace hq := Lib.hid (hq.out.gp hgs (by omega))
        clear hgs hst e0 e1 e2 ef fy
        have fy := Lib.hid fn
        clear fn
        refine hK.out _ _ ?_ (fun hHeld => ?_)
        · exact (KX.out _ hq.out)
        clear hK K
        try simp only [List.getElem_toArray, List.getElem_cons_succ, List.getElem_cons_zero, Act.put, List.setIfInBounds_toArray, List.set_cons_zero, List.set_cons_succ]
        refine wpAnyH_done (by kernel_rfl) ?_ _
        go_wp2_with fail
        go_meet
        case rel => exact ⟨px, py, rfl, rfl, fx.out, fy.out, hb0.out.tr hq.out⟩
    · skip
      have hHeld' := hHeld
      try dsimp only at hHeld'
      go_split_ands
      go_simp
      refine hK.out _ _ ?_ (fun hHeld => ?_)
      · exact (KX.out _ (hq.out.al (.cells #[.int .i64 0, .int .i64 0, .int .i64 0] 55)))
      clear hK K
      try simp only [List.getElem_toArray, List.getElem_cons_succ, List.getElem_cons_zero, Act.put, List.setIfInBounds_toArray, List.set_cons_zero, List.set_cons_succ]
      have fy := heap_alloc_new z0 (oR 0 0 0)
      have hn := (Bl.rfl' z0).al (.cells #[.int .i64 0, .int .i64 0, .int .i64 0] 55)
      obtain ⟨py, hp⟩ : ∃ q, z0.heap.size = q := ⟨_, rfl⟩
      have hgey : z0.heap.size ≤ py := by rw [← hp]; exact hq.out.size
      obtain ⟨z1, hy⟩ : ∃ X, z0.alloc (.cells #[.int .i64 0, .int .i64 0, .int .i64 0] 55) = X := ⟨_, rfl⟩
      have hy' : z0.alloc (oR 0 0 0) = z1 := hy
      rw [hp]
      rw [hp, hy'] at fy
      rw [hy] at hHeld hn ⊢
      replace fy := Lib.hid fy
      clear hy hy'
      replace hq := Lib.hid (hq.out.tr hn)
      clear hn hp
      refine wpAnyH_ready (rs := [1, 4]) (by kernel_rfl) (by simp) ?_
      refine AllReadyH.cons rfl (fun K hK => ?_) (AllReadyH.cons rfl (fun K hK => ?_) (AllReadyH.nil))
      · skip
        have hHeld' := hHeld
        try dsimp only at hHeld'
        go_split_ands
        go_simp
        refine (R1.out z1).mono ?_
        rintro e z2 ⟨rfl, hn⟩
        replace fy := Lib.hid (blk_bl fy.out hn)
        replace hq := Lib.hid (hq.out.tr hn)
        clear hn
        refine hK.out _ _ ?_ (fun hHeld => ?_)
        · exact (KX.out _ hq.out)
        clear hK K
        try simp only [List.getElem_toArray, List.getElem_cons_succ, List.getElem_cons_zero, Act.put, List.setIfInBounds_toArray, List.set_cons_zero, List.set_cons_succ]
        refine wpAnyH_ready (rs := [3, 4]) (by kernel_rfl) (by simp) ?_
        refine AllReadyH.cons rfl (fun K hK => ?_) (AllReadyH.cons rfl (fun K hK => ?_) (AllReadyH.nil))
        · skip
          have hHeld' := hHeld
          try dsimp only at hHeld'
          go_split_ands
          go_simp
          refine (R3.out z2).mono ?_
          rintro e z3 ⟨rfl, hn⟩
          replace fy := Lib.hid (blk_bl fy.out hn)
          replace hq := Lib.hid (hq.out.tr hn)
          clear hn
          refine hK.out _ _ ?_ (fun hHeld => ?_)
          · exact (KX.out _ hq.out)
          clear hK K
          try simp only [List.getElem_toArray, List.getElem_cons_succ, List.getElem_cons_zero, Act.put, List.setIfInBounds_toArray, List.set_cons_zero, List.set_cons_succ]
          refine wpAnyH_ready (rs := [4]) (by kernel_rfl) (by simp) ?_
          refine AllReadyH.cons rfl (fun K hK => ?_) AllReadyH.nil
          have hHeld' := hHeld
          try dsimp only at hHeld'
          go_split_ands
          go_simp
          refine hK.out _ _ ?_ (fun hHeld => ?_)
          · exact (KX.out _ (hq.out.al (.cells #[.int .i64 0, .int .i64 0, .int .i64 0] 55)))
          clear hK K
          try simp only [List.getElem_toArray, List.getElem_cons_succ, List.getElem_cons_zero, Act.put, List.setIfInBounds_toArray, List.set_cons_zero, List.set_cons_succ]
          have fx := heap_alloc_new z3 (oR 0 0 0)
          have hn := (Bl.rfl' z3).al (.cells #[.int .i64 0, .int .i64 0, .int .i64 0] 55)
          obtain ⟨px, hp⟩ : ∃ q, z3.heap.size = q := ⟨_, rfl⟩
          have hgex : z0.heap.size ≤ px := by rw [← hp]; exact hq.out.size
          obtain ⟨z4, hy⟩ : ∃ X, z3.alloc (.cells #[.int .i64 0, .int .i64 0, .int .i64 0] 55) = X := ⟨_, rfl⟩
          have hy' : z3.alloc (oR 0 0 0) = z4 := hy
          rw [hp]
          rw [hp, hy'] at fx
          rw [hy] at hHeld hn ⊢
          replace fx := Lib.hid fx
          clear hy hy'
          have hne : px ≠ py := by have := lt_of_block fy.out; omega
          replace fy := Lib.hid (blk_bl fy.out hn)
          replace hq := Lib.hid (hq.out.tr hn)
          clear hn hp
          have e0 := cell_at fx.out 0
          have e1 := cell_at fx.out 1
          have e2 := cell_at fx.out 2
          simp only [List.getElem?_toArray, List.getElem?_cons_succ, List.getElem?_cons_zero] at e0 e1 e2
          have ef := free_at fx.out
          have hgs := three_bl z4 px A B C
          have fn := three_set fx.out A B C
          obtain ⟨z5, hst⟩ : ∃ X, (((z4.setCell ⟨px, 0, none⟩ (I A)).setCell ⟨px, 1, none⟩ (I B)).setCell ⟨px, 2, none⟩ (I C)) = X := ⟨_, rfl⟩
          rw [hst] at hgs fn
          refine wpAnyH_ready (rs := [6]) (by kernel_rfl) (by simp) ?_
          refine AllReadyH.cons rfl (fun K hK => ?_) AllReadyH.nil
          have hHeld' := hHeld
          try dsimp only at hHeld'
          go_split_ands
          go_simp
          replace fy := Lib.hid ((hgs.block _ (lt_of_block fy.out) (fun e => by cases e; omega)).trans fy.out)
          replace hq := Lib.hid (hq.out.gp hgs (by omega))
          clear hgs hst e0 e1 e2 ef fx
          have fx := Lib.hid fn
          clear fn
          refine hK.out _ _ ?_ (fun hHeld => ?_)
          · exact (KX.out _ hq.out)
          clear hK K
          try simp only [List.getElem_toArray, List.getElem_cons_succ, List.getElem_cons_zero, Act.put, List.setIfInBounds_toArray, List.set_cons_zero, List.set_cons_succ]
          have e0 := cell_at fy.out 0
          have e1 := cell_at fy.out 1
          have e2 := cell_at fy.out 2
          simp only [List.getElem?_toArray, List.getElem?_cons_succ, List.getElem?_cons_zero] at e0 e1 e2
          have ef := free_at fy.out
          have hgs := three_bl z5 py D E F
          have fn := three_set fy.out D E F
          obtain ⟨z6, hst⟩ : ∃ X, (((z5.setCell ⟨py, 0, none⟩ (I D)).setCell ⟨py, 1, none⟩ (I E)).setCell ⟨py, 2, none⟩ (I F)) = X := ⟨_, rfl⟩
          rw [hst] at hgs fn
          refine wpAnyH_ready (rs := [7]) (by kernel_rfl) (by simp) ?_
          refine AllReadyH.cons rfl (fun K hK => ?_) AllReadyH.nil
          have hHeld' := hHeld
          try dsimp only at hHeld'
          go_split_ands
          go_simp
          replace fx := Lib.hid ((hgs.block _ (lt_of_block fx.out) (fun e => by cases e; omega)).trans fx.out)
          replace hq := Lib.hid (hq.out.gp hgs (by omega))
          clear hgs hst e0 e1 e2 ef fy
          have fy := Lib.hid fn
          clear fn
          refine hK.out _ _ ?_ (fun hHeld => ?_)
          · exact (KX.out _ hq.out)
          clear hK K
          try simp only [List.getElem_toArray, List.getElem_cons_succ, List.getElem_cons_zero, Act.put, List.setIfInBounds_toArray, List.set_cons_zero, List.set_cons_succ]
          refine wpAnyH_done (by kernel_rfl) ?_ _
          go_wp2_with fail
          go_meet
          case rel => exact ⟨px, py, rfl, rfl, fx.out, fy.out, hb0.out.tr hq.out⟩
        · skip
          have hHeld' := hHeld
          try dsimp only at hHeld'
          go_split_ands
          go_simp
          refine hK.out _ _ ?_ (fun hHeld => ?_)
          · exact (KX.out _ (hq.out.al (.cells #[.int .i64 0, .int .i64 0, .int .i64 0] 55)))
          clear hK K
          try simp only [List.getElem_toArray, List.getElem_cons_succ, List.getElem_cons_zero, Act.put, List.setIfInBounds_toArray, List.set_cons_zero, List.set_cons_succ]
          have fx := heap_alloc_new z2 (oR 0 0 0)
          have hn := (Bl.rfl' z2).al (.cells #[.int .i64 0, .int .i64 0, .int .i64 0] 55)
          obtain ⟨px, hp⟩ : ∃ q, z2.heap.size = q := ⟨_, rfl⟩
          have hgex : z0.heap.size ≤ px := by rw [← hp]; exact hq.out.size
          obtain ⟨z3, hy⟩ : ∃ X, z2.alloc (.cells #[.int .i64 0, .int .i64 0, .int .i64 0] 55) = X := ⟨_, rfl⟩
          have hy' : z2.alloc (oR 0 0 0) = z3 := hy
          rw [hp]
          rw [hp, hy'] at fx
          rw [hy] at hHeld hn ⊢
          replace fx := Lib.hid fx
          clear hy hy'
          have hne : px ≠ py := by have := lt_of_block fy.out; omega
          replace fy := Lib.hid (blk_bl fy.out hn)
          replace hq := Lib.hid (hq.out.tr hn)
          clear hn hp
          refine wpAnyH_ready (rs := [3]) (by kernel_rfl) (by simp) ?_
          refine AllReadyH.cons rfl (fun K hK => ?_) AllReadyH.nil
          have hHeld' := hHeld
          try dsimp only at hHeld'
          go_split_ands
          go_simp
          refine (R3.out z3).mono ?_
          rintro e z4 ⟨rfl, hn⟩
          replace fx := Lib.hid (blk_bl fx.out hn)
          replace fy := Lib.hid (blk_bl fy.out hn)
          replace hq := Lib.hid (hq.out.tr hn)
          clear hn
          refine hK.out _ _ ?_ (fun hHeld => ?_)
          · exact (KX.out _ hq.out)
          clear hK K
          try simp only [List.getElem_toArray, List.getElem_cons_succ, List.getElem_cons_zero, Act.put, List.setIfInBounds_toArray, List.set_cons_zero, List.set_cons_succ]
          have e0 := cell_at fx.out 0
          have e1 := cell_at fx.out 1
          have e2 := cell_at fx.out 2
          simp only [List.getElem?_toArray, List.getElem?_cons_succ, List.getElem?_cons_zero] at e0 e1 e2
          have ef := free_at fx.out
          have hgs := three_bl z4 px A B C
          have fn := three_set fx.out A B C
          obtain ⟨z5, hst⟩ : ∃ X, (((z4.setCell ⟨px, 0, none⟩ (I A)).setCell ⟨px, 1, none⟩ (I B)).setCell ⟨px, 2, none⟩ (I C)) = X := ⟨_, rfl⟩
          rw [hst] at hgs fn
          refine wpAnyH_ready (rs := [6]) (by kernel_rfl) (by simp) ?_
          refine AllReadyH.cons rfl (fun K hK => ?_) AllReadyH.nil
          have hHeld' := hHeld
          try dsimp only at hHeld'
          go_split_ands
          go_simp
          replace fy := Lib.hid ((hgs.block _ (lt_of_block fy.out) (fun e => by cases e; omega)).trans fy.out)
          replace hq := Lib.hid (hq.out.gp hgs (by omega))
          clear hgs hst e0 e1 e2 ef fx
          have fx := Lib.hid fn
          clear fn
          refine hK.out _ _ ?_ (fun hHeld => ?_)
          · exact (KX.out _ hq.out)
          clear hK K
          try simp only [List.getElem_toArray, List.getElem_cons_succ, List.getElem_cons_zero, Act.put, List.setIfInBounds_toArray, List.set_cons_zero, List.set_cons_succ]
          have e0 := cell_at fy.out 0
          have e1 := cell_at fy.out 1
          have e2 := cell_at fy.out 2
          simp only [List.getElem?_toArray, List.getElem?_cons_succ, List.getElem?_cons_zero] at e0 e1 e2
          have ef := free_at fy.out
          have hgs := three_bl z5 py D E F
          have fn := three_set fy.out D E F
          obtain ⟨z6, hst⟩ : ∃ X, (((z5.setCell ⟨py, 0, none⟩ (I D)).setCell ⟨py, 1, none⟩ (I E)).setCell ⟨py, 2, none⟩ (I F)) = X := ⟨_, rfl⟩
          rw [hst] at hgs fn
          refine wpAnyH_ready (rs := [7]) (by kernel_rfl) (by simp) ?_
          refine AllReadyH.cons rfl (fun K hK => ?_) AllReadyH.nil
          have hHeld' := hHeld
          try dsimp only at hHeld'
          go_split_ands
          go_simp
          replace fx := Lib.hid ((hgs.block _ (lt_of_block fx.out) (fun e => by cases e; omega)).trans fx.out)
          replace hq := Lib.hid (hq.out.gp hgs (by omega))
          clear hgs hst e0 e1 e2 ef fy
          have fy := Lib.hid fn
          clear fn
          refine hK.out _ _ ?_ (fun hHeld => ?_)
          · exact (KX.out _ hq.out)
          clear hK K
          try simp only [List.getElem_toArray, List.getElem_cons_succ, List.getElem_cons_zero, Act.put, List.setIfInBounds_toArray, List.set_cons_zero, List.set_cons_succ]
          refine wpAnyH_done (by kernel_rfl) ?_ _
          go_wp2_with fail
          go_meet
          case rel => exact ⟨px, py, rfl, rfl, fx.out, fy.out, hb0.out.tr hq.out⟩
      · skip
        have hHeld' := hHeld
        try dsimp only at hHeld'
        go_split_ands
        go_simp
        refine hK.out _ _ ?_ (fun hHeld => ?_)
        · exact (KX.out _ (hq.out.al (.cells #[.int .i64 0, .int .i64 0, .int .i64 0] 55)))
        clear hK K
        try simp only [List.getElem_toArray, List.getElem_cons_succ, List.getElem_cons_zero, Act.put, List.setIfInBounds_toArray, List.set_cons_zero, List.set_cons_succ]
        have fx := heap_alloc_new z1 (oR 0 0 0)
        have hn := (Bl.rfl' z1).al (.cells #[.int .i64 0, .int .i64 0, .int .i64 0] 55)
        obtain ⟨px, hp⟩ : ∃ q, z1.heap.size = q := ⟨_, rfl⟩
        have hgex : z0.heap.size ≤ px := by rw [← hp]; exact hq.out.size
        obtain ⟨z2, hy⟩ : ∃ X, z1.alloc (.cells #[.int .i64 0, .int .i64 0, .int .i64 0] 55) = X := ⟨_, rfl⟩
        have hy' : z1.alloc (oR 0 0 0) = z2 := hy
        rw [hp]
        rw [hp, hy'] at fx
        rw [hy] at hHeld hn ⊢
        replace fx := Lib.hid fx
        clear hy hy'
        have hne : px ≠ py := by have := lt_of_block fy.out; omega
        replace fy := Lib.hid (blk_bl fy.out hn)
        replace hq := Lib.hid (hq.out.tr hn)
        clear hn hp
        refine wpAnyH_ready (rs := [1]) (by kernel_rfl) (by simp) ?_
        refine AllReadyH.cons rfl (fun K hK => ?_) AllReadyH.nil
        have hHeld' := hHeld
        try dsimp only at hHeld'
        go_split_ands
        go_simp
        refine (R1.out z2).mono ?_
        rintro e z3 ⟨rfl, hn⟩
        replace fx := Lib.hid (blk_bl fx.out hn)
        replace fy := Lib.hid (blk_bl fy.out hn)
        replace hq := Lib.hid (hq.out.tr hn)
        clear hn
        refine hK.out _ _ ?_ (fun hHeld => ?_)
        · exact (KX.out _ hq.out)
        clear hK K
        try simp only [List.getElem_toArray, List.getElem_cons_succ, List.getElem_cons_zero, Act.put, List.setIfInBounds_toArray, List.set_cons_zero, List.set_cons_succ]
        refine wpAnyH_ready (rs := [3]) (by kernel_rfl) (by simp) ?_
        refine AllReadyH.cons rfl (fun K hK => ?_) AllReadyH.nil
        have hHeld' := hHeld
        try dsimp only at hHeld'
        go_split_ands
        go_simp
        refine (R3.out z3).mono ?_
        rintro e z4 ⟨rfl, hn⟩
        replace fx := Lib.hid (blk_bl fx.out hn)
        replace fy := Lib.hid (blk_bl fy.out hn)
        replace hq := Lib.hid (hq.out.tr hn)
        clear hn
        refine hK.out _ _ ?_ (fun hHeld => ?_)
        · exact (KX.out _ hq.out)
        clear hK K
        try simp only [List.getElem_toArray, List.getElem_cons_succ, List.getElem_cons_zero, Act.put, List.setIfInBounds_toArray, List.set_cons_zero, List.set_cons_succ]
        have e0 := cell_at fx.out 0
        have e1 := cell_at fx.out 1
        have e2 := cell_at fx.out 2
        simp only [List.getElem?_toArray, List.getElem?_cons_succ, List.getElem?_cons_zero] at e0 e1 e2
        have ef := free_at fx.out
        have hgs := three_bl z4 px A B C
        have fn := three_set fx.out A B C
        obtain ⟨z5, hst⟩ : ∃ X, (((z4.setCell ⟨px, 0, none⟩ (I A)).setCell ⟨px, 1, none⟩ (I B)).setCell ⟨px, 2, none⟩ (I C)) = X := ⟨_, rfl⟩
        rw [hst] at hgs fn
        refine wpAnyH_ready (rs := [6]) (by kernel_rfl) (by simp) ?_
        refine AllReadyH.cons rfl (fun K hK => ?_) AllReadyH.nil
        have hHeld' := hHeld
        try dsimp only at hHeld'
        go_split_ands
        go_simp
        replace fy := Lib.hid ((hgs.block _ (lt_of_block fy.out) (fun e => by cases e; omega)).trans fy.out)
        replace hq := Lib.hid (hq.out.gp hgs (by omega))
        clear hgs hst e0 e1 e2 ef fx
        have fx := Lib.hid fn
        clear fn
        refine hK.out _ _ ?_ (fun hHeld => ?_)
        · exact (KX.out _ hq.out)
        clear hK K
        try simp only [List.getElem_toArray, List.getElem_cons_succ, List.getElem_cons_zero, Act.put, List.setIfInBounds_toArray, List.set_cons_zero, List.set_cons_succ]
        have e0 := cell_at fy.out 0
        have e1 := cell_at fy.out 1
        have e2 := cell_at fy.out 2
        simp only [List.getElem?_toArray, List.getElem?_cons_succ, List.getElem?_cons_zero] at e0 e1 e2
        have ef := free_at fy.out
        have hgs := three_bl z5 py D E F
        have fn := three_set fy.out D E F
        obtain ⟨z6, hst⟩ : ∃ X, (((z5.setCell ⟨py, 0, none⟩ (I D)).setCell ⟨py, 1, none⟩ (I E)).setCell ⟨py, 2, none⟩ (I F)) = X := ⟨_, rfl⟩
        rw [hst] at hgs fn
        refine wpAnyH_ready (rs := [7]) (by kernel_rfl) (by simp) ?_
        refine AllReadyH.cons rfl (fun K hK => ?_) AllReadyH.nil
        have hHeld' := hHeld
        try dsimp only at hHeld'
        go_split_ands
        go_simp
        replace fx := Lib.hid ((hgs.block _ (lt_of_block fx.out) (fun e => by cases e; omega)).trans fx.out)
        replace hq := Lib.hid (hq.out.gp hgs (by omega))
        clear hgs hst e0 e1 e2 ef fy
        have fy := Lib.hid fn
        clear fn
        refine hK.out _ _ ?_ (fun hHeld => ?_)
        · exact (KX.out _ hq.out)
        clear hK K
        try simp only [List.getElem_toArray, List.getElem_cons_succ, List.getElem_cons_zero, Act.put, List.setIfInBounds_toArray, List.set_cons_zero, List.set_cons_succ]
        refine wpAnyH_done (by kernel_rfl) ?_ _
        go_wp2_with fail
        go_meet
        case rel => exact ⟨px, py, rfl, rfl, fx.out, fy.out, hb0.out.tr hq.out⟩
  case rest =>
    obtain ⟨px, py, rfl, rfl, fx, fy, hbc⟩ := hcut
    have RX := Lib.hid (fun w' (hb : Bl wc w') => (⟨cell_at (blk_bl fx hb) 0, cell_at (blk_bl fx hb) 1, cell_at (blk_bl fx hb) 2, cell_at (blk_bl fy hb) 0, cell_at (blk_bl fy hb) 1, cell_at (blk_bl fy hb) 2⟩ : w'.cell? ⟨px, 0, none⟩ = some (I A) ∧ w'.cell? ⟨px, 1, none⟩ = some (I B) ∧ w'.cell? ⟨px, 2, none⟩ = some (I C) ∧ w'.cell? ⟨py, 0, none⟩ = some (I D) ∧ w'.cell? ⟨py, 1, none⟩ = some (I E) ∧ w'.cell? ⟨py, 2, none⟩ = some (I F)))
    clear fx fy KX R1 R3 hq hb0 hz0 hzz
    replace hbc := Lib.hid hbc
    go_wp2_with fail
    go_loopw [12] (fun i wr => ∃ k : Nat, k ≤ 3 ∧ i = I k ∧ (1 ≤ k → A = D) ∧ (2 ≤ k → B = E) ∧ (3 ≤ k → C = F) ∧ Bl wc wr) (fun i _ => 3 - (intOf i).toNat)
    case atStart => exact ⟨0, by omega, rfl, fun h => by omega, fun h => by omega, fun h => by omega, Bl.rfl' _⟩
    case round =>
      obtain ⟨k, hk, rfl, g1, g2, g3, hbr⟩ := hrel
      obtain ⟨x0, x1, x2, y0, y1, y2⟩ := RX.out _ hbr
      replace hbr := Lib.hid hbr
      rcases (by omega : k = 0 ∨ k = 1 ∨ k = 2 ∨ k = 3) with rfl | rfl | rfl | rfl
      · rw [show ((0 : Nat) : Int) = 0 from rfl]
        clear g1 g2 g3
        by_cases hAD : A = D
        · have e1 : (A != D) = false := by rw [bne, beq_iff_eq.2 hAD]; rfl
          replace hAD := Lib.hid hAD
          go_wp2_with fail
          go_quiet (fail)
          have hbq := hbr.out.drn nq
          replace hbq := Lib.hid hbq
          go_wp2_with fail
          go_roundw
          case rel => exact ⟨1, by omega, by first | rfl | go_num, fun _ => hAD.out, fun h => by omega, fun h => by omega, hbq.out⟩
          case measure => simp [intOf] <;> omega
        · have e1 : (A != D) = true := by rw [bne, beq_eq_false_iff_ne.2 hAD]; rfl
          have hy := c1.out hAD
          by_cases hgt : A > D
          · rw [if_pos hgt] at hy
            have e2 : decide (A > D) = true := decide_eq_true hgt
            have e3 : decide (D < A) = true := e2
            clear hgt
            replace hy := Lib.hid hy
            go_wp2_with fail
            go_quiet (fail)
            have hbq := hbr.out.drn nq
            replace hbq := Lib.hid hbq
            go_wp2_with fail
            go_quiet (fail)
            have hbz := hbc.out.tr (hbq.out.drn nq)
            replace hbz := Lib.hid hbz
            go_wp2_with fail
            go_ret
            exact ⟨by rw [hy.out]; rfl, hbz.out⟩
          · rw [if_neg hgt] at hy
            have e2 : decide (A > D) = false := decide_eq_false hgt
            have e3 : decide (D < A) = false := e2
            clear hgt
            replace hy := Lib.hid hy
            go_wp2_with fail
            go_quiet (fail)
            have hbq := hbr.out.drn nq
            replace hbq := Lib.hid hbq
            go_wp2_with fail
            go_quiet (fail)
            have hbz := hbc.out.tr (hbq.out.drn nq)
            replace hbz := Lib.hid hbz
            go_wp2_with fail
            go_ret
            exact ⟨by rw [hy.out]; rfl, hbz.out⟩
      · have hAD := g1 (by omega)
        rw [show ((1 : Nat) : Int) = 1 from rfl]
        clear g1 g2 g3
        by_cases hBE : B = E
        · have e1 : (B != E) = false := by rw [bne, beq_iff_eq.2 hBE]; rfl
          replace hAD := Lib.hid hAD
          replace hBE := Lib.hid hBE
          go_wp2_with fail
          go_quiet (fail)
          have hbq := hbr.out.drn nq
          replace hbq := Lib.hid hbq
          go_wp2_with fail
          go_roundw
          case rel => exact ⟨2, by omega, by first | rfl | go_num, fun _ => hAD.out, fun _ => hBE.out, fun h => by omega, hbq.out⟩
          case measure => simp [intOf] <;> omega
        · have e1 : (B != E) = true := by rw [bne, beq_eq_false_iff_ne.2 hBE]; rfl
          have hy := c2.out hAD hBE
          by_cases hgt : B > E
          · rw [if_pos hgt] at hy
            have e2 : decide (B > E) = true := decide_eq_true hgt
            have e3 : decide (E < B) = true := e2
            clear hgt
            replace hy := Lib.hid hy
            go_wp2_with fail
            go_quiet (fail)
            have hbq := hbr.out.drn nq
            replace hbq := Lib.hid hbq
            go_wp2_with fail
            go_quiet (fail)
            have hbz := hbc.out.tr (hbq.out.drn nq)
            replace hbz := Lib.hid hbz
            go_wp2_with fail
            go_ret
            exact ⟨by rw [hy.out]; rfl, hbz.out⟩
          · rw [if_neg hgt] at hy
            have e2 : decide (B > E) = false := decide_eq_false hgt
            have e3 : decide (E < B) = false := e2
            clear hgt
            replace hy := Lib.hid hy
            go_wp2_with fail
            go_quiet (fail)
            have hbq := hbr.out.drn nq
            replace hbq := Lib.hid hbq
            go_wp2_with fail
            go_quiet (fail)
            have hbz := hbc.out.tr (hbq.out.drn nq)
            replace hbz := Lib.hid hbz
            go_wp2_with fail
            go_ret
            exact ⟨by rw [hy.out]; rfl, hbz.out⟩
      · have hAD := g1 (by omega)
        have hBE := g2 (by omega)
        rw [show ((2 : Nat) : Int) = 2 from rfl]
        clear g1 g2 g3
        by_cases hCF : C = F
        · have e1 : (C != F) = false := by rw [bne, beq_iff_eq.2 hCF]; rfl
          replace hAD := Lib.hid hAD
          replace hBE := Lib.hid hBE
          replace hCF := Lib.hid hCF
          go_wp2_with fail
          go_quiet (fail)
          have hbq := hbr.out.drn nq
          replace hbq := Lib.hid hbq
          go_wp2_with fail
          go_roundw
          case rel => exact ⟨3, by omega, by first | rfl | go_num, fun _ => hAD.out, fun _ => hBE.out, fun _ => hCF.out, hbq.out⟩
          case measure => simp [intOf] <;> omega
        · have e1 : (C != F) = true := by rw [bne, beq_eq_false_iff_ne.2 hCF]; rfl
          have hy := c3.out hAD hBE hCF
          by_cases hgt : C > F
          · rw [if_pos hgt] at hy
            have e2 : decide (C > F) = true := decide_eq_true hgt
            have e3 : decide (F < C) = true := e2
            clear hgt
            replace hy := Lib.hid hy
            go_wp2_with fail
            go_quiet (fail)
            have hbq := hbr.out.drn nq
            replace hbq := Lib.hid hbq
            go_wp2_with fail
            go_quiet (fail)
            have hbz := hbc.out.tr (hbq.out.drn nq)
            replace hbz := Lib.hid hbz
            go_wp2_with fail
            go_ret
            exact ⟨by rw [hy.out]; rfl, hbz.out⟩
          · rw [if_neg hgt] at hy
            have e2 : decide (C > F) = false := decide_eq_false hgt
            have e3 : decide (F < C) = false := e2
            clear hgt
            replace hy := Lib.hid hy
            go_wp2_with fail
            go_quiet (fail)
            have hbq := hbr.out.drn nq
            replace hbq := Lib.hid hbq
            go_wp2_with fail
            go_quiet (fail)
            have hbz := hbc.out.tr (hbq.out.drn nq)
            replace hbz := Lib.hid hbz
            go_wp2_with fail
            go_ret
            exact ⟨by rw [hy.out]; rfl, hbz.out⟩
      · have hy := c4.out (g1 (by omega)) (g2 (by omega)) (g3 (by omega))
        rw [show ((3 : Nat) : Int) = 3 from rfl]
        have hbz := hbc.out.tr hbr.out
        clear g1 g2 g3
        replace hy := Lib.hid hy
        replace hbz := Lib.hid hbz
        go_wp2_with fail
        go_ret
        exact ⟨by rw [hy.out]; rfl, hbz.out⟩
end Go.Proofs.Ytpdcadlgdpkkoaa.mat
