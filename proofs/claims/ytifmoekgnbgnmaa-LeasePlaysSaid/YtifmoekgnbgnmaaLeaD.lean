/-
  The document's own limiter and client.
-/
import Derived.Test.YtifmoekgnbgnmaaAct24
namespace Go.Proofs.Ytifmoekgnbgnmaa.lease
open Go.ChangeShapes Go.WideShapes Go.ChangeAt Go.RowKit
set_option linter.unusedVariables false
set_option linter.unusedSimpArgs false

abbrev one (k n : Int) : Value := .agg #[I k, I n]
theorem in_any (k n q : Int) (w : World) : Calls Try.prog 31 #[one k n, .int .i64 q] w fun e w' => e = .returned (one q (if q = k then n else 0)) ∧ Bl w w' := by
  by_cases h : q = k
  · subst h
    have hne : (q != q) = false := by simp
    rw [if_pos rfl]
    go_enter Try.func31, Try.ntmps31
    go_wp2_with fail
    refine bodyPost_ret (v := one q n) (by simp [results, Try.results31, go_sem]) rfl ⟨rfl, ((Bl.rfl' _).al _).al _⟩
  · have hne : (k != q) = true := bne_iff_ne.2 (fun e => h e.symm)
    rw [if_neg h]
    go_enter Try.func31, Try.ntmps31
    go_wp2_with fail
    refine bodyPost_ret (v := one q 0) (by simp [results, Try.results31, go_sem]) rfl ⟨rfl, ((Bl.rfl' _).al _).al _⟩

theorem rforget_any (L W S t : Int) (w : World) (hb : okR L W S) (t0 : 0 ≤ t) (t1 : t ≤ 1000000) :
    Calls Try.prog 21 #[rate L W S, .int .i64 t] w fun e w' => e = .returned (one (t / W) L) ∧ Bl w w' := by
  obtain ⟨l0, l1, w0, w1, s0, s1⟩ := hb
  have hq := div_bd t0 t1 w0
  have htd : t.tdiv W = t / W := Int.tdiv_eq_ediv_of_nonneg t0
  obtain ⟨y, hy⟩ : ∃ y, t / W = y := ⟨_, rfl⟩
  rw [hy] at hq htd ⊢
  have hwd : IntKind.i64.wrap (t.tdiv W) = y := by rw [htd, IntKind.wrap_i64]; omega
  have hW : ¬ W = 0 := by omega
  clear hy
  go_enter Try.func21, Try.ntmps21
  go_wp2_with fail
  go_region
  go_wp2_with fail
  refine bodyPost_ret (v := one y L) (by simp [results, Try.results21, go_sem]) rfl ⟨rfl, (((Bl.rfl' _).al _).al _).dr⟩

theorem rask_any (L W S k n t : Int) (w : World) (hb : okR L W S) (t0 : 0 ≤ t) (t1 : t ≤ 1000000) (n0 : 0 ≤ n) (n1 : n ≤ L) :
    Calls Try.prog 24 #[rate L W S, one k n, .int .i64 t] w fun e w' => e = .returned (.tuple #[one (t / W) (cur W k n t + lease.ask L S (cur W k n t)), .int .i64 (lease.ask L S (cur W k n t))]) ∧ Bl w w' := by
  have hc := cur_bd (W := W) (k := k) (t := t) n0 n1
  obtain ⟨l0, l1, w0, w1, s0, s1⟩ := hb
  have hq := div_bd t0 t1 w0
  have htd : t.tdiv W = t / W := Int.tdiv_eq_ediv_of_nonneg t0
  have In := fun w => in_any k n (t / W) w
  rw [show (if t / W = k then n else 0) = cur W k n t from rfl] at In
  obtain ⟨y, hy⟩ : ∃ y, t / W = y := ⟨_, rfl⟩
  obtain ⟨c, hcc⟩ : ∃ c, cur W k n t = c := ⟨_, rfl⟩
  rw [hy] at hq htd In ⊢
  rw [hcc] at hc In ⊢
  unfold lease.ask
  replace In := Lib.hid In
  have hwd : IntKind.i64.wrap (t.tdiv W) = y := by rw [htd, IntKind.wrap_i64]; omega
  have hW : ¬ W = 0 := by omega
  have hwl : IntKind.i64.wrap (L - c) = L - c := by rw [IntKind.wrap_i64]; omega
  obtain ⟨m, hm⟩ : ∃ m, min S (L - c) = m := ⟨_, rfl⟩
  have hmn : (if L - c < S then L - c else S) = m := by split <;> omega
  have hm1 : c + m ≤ 1000 ∧ 0 ≤ c + m := by omega
  have hwm : IntKind.i64.wrap (c + m) = c + m := by rw [IntKind.wrap_i64]; omega
  rw [hm]
  clear hy hcc hm
  go_enter Try.func24, Try.ntmps24
  go_wp2_with fail
  have h0 := var_bl (heap_alloc_new w (.cells #[I L, I W, I S] 23)) (((Bl.rfl' _).al (.cells #[I k, I n] 38)).al (.cells #[I 0, I 0] 38))
  have h1 := var_bl (heap_alloc_new (w.alloc (.cells #[I L, I W, I S] 23)) (.cells #[I k, I n] 38)) ((Bl.rfl' _).al (.cells #[I 0, I 0] 38))
  have h2 := heap_alloc_new ((w.alloc (.cells #[I L, I W, I S] 23)).alloc (.cells #[I k, I n] 38)) (.cells #[I 0, I 0] 38)
  have hbw := (((Bl.rfl' w).al (.cells #[I L, I W, I S] 23)).al (.cells #[I k, I n] 38)).al (.cells #[I 0, I 0] 38)
  rw [show (w.alloc (.cells #[I L, I W, I S] 23)).heap.size = w.heap.size + 1 by simp] at h1
  rw [show ((w.alloc (.cells #[I L, I W, I S] 23)).alloc (.cells #[I k, I n] 38)).heap.size = w.heap.size + 1 + 1 by simp] at h2
  obtain ⟨w2, hw2⟩ : ∃ x, ((w.alloc (.cells #[I L, I W, I S] 23)).alloc (.cells #[I k, I n] 38)).alloc (.cells #[I 0, I 0] 38) = x := ⟨_, rfl⟩
  rw [hw2] at h0 h1 h2 hbw ⊢
  clear hw2
  have d1 := cell_at (var_bl h0 (Bl.rfl' w2).dr) 1
  have d2 := cell_at (var_bl h1 (Bl.rfl' w2).dr) 0
  have d3 := cell_at (var_bl h1 (Bl.rfl' w2).dr) 1
  simp only [List.getElem?_toArray, List.getElem?_cons_succ, List.getElem?_cons_zero] at d1 d2 d3
  have hB : Bl w2 w2.drew := (Bl.rfl' w2).dr
  obtain ⟨w3, hw3⟩ : ∃ x, w2.drew = x := ⟨_, rfl⟩
  rw [hw3] at d1 d2 d3 hB
  refine wp_region_still_tail 5 (by kernel_rfl) (by kernel_rfl) ?_
  simp only [List.take_succ_cons, List.take_zero, List.drop_succ_cons, List.drop_zero]
  change wpStill _ _ w2.drew (fun a' => wpList _ _ _ _ a' w2.drew) _ _
  rw [hw3]
  clear hw3
  repeat still_step
  try refine wpStill_nil ?_
  go_wp2_with fail
  refine (In.out _).mono ?_
  rintro e w5 ⟨rfl, hb5⟩
  have hb25 := hB.tr hb5
  replace h0 := var_bl h0 hb25
  replace h1 := var_bl h1 hb25
  replace h2 := var_bl h2 hb25
  replace hbw := hbw.tr hb25
  clear hb5 hb25 hB d1 d2 d3
  have e0 := cell_at h0 0; have e1 := cell_at h0 1; have e2 := cell_at h0 2
  have k0 := cell_at h1 0; have k1 := cell_at h1 1
  have z0 := cell_at h2 0; have z1 := cell_at h2 1
  simp only [List.getElem?_toArray, List.getElem?_cons_succ, List.getElem?_cons_zero] at e0 e1 e2 k0 k1 z0 z1
  have fr := free_at h1
  have fz := free_at h2
  have s1 := set_at 0 (I y) h1
  have s2 := set_at 1 (I c) s1
  have s3 := set_at 1 (I (c + m)) s2
  have g3 := gby_tr (gby_tr (gby_set w5 (w.heap.size + 1) 0 (I y)) (gby_set _ (w.heap.size + 1) 1 (I c))) (gby_set _ (w.heap.size + 1) 1 (I (c + m)))
  have u0 := cell_at s3 0
  have u1 := cell_at s3 1
  simp only [List.setIfInBounds_toArray, List.set_cons_zero, List.set_cons_succ, List.getElem?_toArray, List.getElem?_cons_succ, List.getElem?_cons_zero] at u0 u1
  have h2' := var_gby h2 g3 (by omega)
  have hb6 := hbw.gp g3 (by omega)
  clear s1 s2 s3 hbw g3
  replace hb6 := Lib.hid hb6; replace h2' := Lib.hid h2'
  go_wp2_with fail
  have hb6 := hb6.out; have h2' := h2'.out
  obtain ⟨w6, hw6⟩ : ∃ x, ((w5.setCell ⟨w.heap.size + 1, 0, none⟩ (I y)).setCell ⟨w.heap.size + 1, 1, none⟩ (I c)).setCell ⟨w.heap.size + 1, 1, none⟩ (I (c + m)) = x := ⟨_, rfl⟩
  rw [hw6] at hb6 h2' ⊢
  have t1 := set_at 0 (I y) h2'
  have t2 := set_at 1 (I (c + m)) t1
  have r0 := cell_at t2 0
  have r1 := cell_at t2 1
  simp only [List.setIfInBounds_toArray, List.set_cons_zero, List.set_cons_succ, List.getElem?_toArray, List.getElem?_cons_succ, List.getElem?_cons_zero] at r0 r1
  have g6 := gby_tr (gby_set w6 (w.heap.size + 1 + 1) 0 (I y)) (gby_set _ (w.heap.size + 1 + 1) 1 (I (c + m)))
  refine bodyPost_ret (v := .tuple #[one y (c + m), .int .i64 m]) (by simp [results, Try.results24, go_sem, r0, r1]) rfl ⟨rfl, hb6.gp g6 (by omega)⟩
theorem rgive_any (L W S k n t g : Int) (w : World) (hb : okR L W S) (t0 : 0 ≤ t) (t1 : t ≤ 1000000) (n0 : 0 ≤ n) (n1 : n ≤ 1000000) (g0 : 0 ≤ g) (g1 : g ≤ 1000000) :
    Calls Try.prog 27 #[rate L W S, one k n, .int .i64 t, .int .i64 g] w fun e w' => e = .returned (one (t / W) (cur W k n t + g)) ∧ Bl w w' := by
  have hc := cur_bd (W := W) (k := k) (t := t) n0 n1
  obtain ⟨l0, l1, w0, w1, s0, s1⟩ := hb
  have hq := div_bd t0 t1 w0
  have htd : t.tdiv W = t / W := Int.tdiv_eq_ediv_of_nonneg t0
  have In := fun w => in_any k n (t / W) w
  rw [show (if t / W = k then n else 0) = cur W k n t from rfl] at In
  obtain ⟨y, hy⟩ : ∃ y, t / W = y := ⟨_, rfl⟩
  obtain ⟨c, hcc⟩ : ∃ c, cur W k n t = c := ⟨_, rfl⟩
  rw [hy] at hq htd In ⊢
  rw [hcc] at hc In ⊢
  replace In := Lib.hid In
  have hwd : IntKind.i64.wrap (t.tdiv W) = y := by rw [htd, IntKind.wrap_i64]; omega
  have hW : ¬ W = 0 := by omega
  clear hy hcc
  have hwm : IntKind.i64.wrap (c + g) = c + g := by rw [IntKind.wrap_i64]; omega
  go_enter Try.func27, Try.ntmps27
  go_wp2_with fail
  have h0 := var_bl (heap_alloc_new w (.cells #[I L, I W, I S] 23)) (((Bl.rfl' _).al (.cells #[I k, I n] 38)).al (.cells #[I 0, I 0] 38))
  have h1 := var_bl (heap_alloc_new (w.alloc (.cells #[I L, I W, I S] 23)) (.cells #[I k, I n] 38)) ((Bl.rfl' _).al (.cells #[I 0, I 0] 38))
  have h2 := heap_alloc_new ((w.alloc (.cells #[I L, I W, I S] 23)).alloc (.cells #[I k, I n] 38)) (.cells #[I 0, I 0] 38)
  have hbw := (((Bl.rfl' w).al (.cells #[I L, I W, I S] 23)).al (.cells #[I k, I n] 38)).al (.cells #[I 0, I 0] 38)
  rw [show (w.alloc (.cells #[I L, I W, I S] 23)).heap.size = w.heap.size + 1 by simp] at h1
  rw [show ((w.alloc (.cells #[I L, I W, I S] 23)).alloc (.cells #[I k, I n] 38)).heap.size = w.heap.size + 1 + 1 by simp] at h2
  obtain ⟨w2, hw2⟩ : ∃ x, ((w.alloc (.cells #[I L, I W, I S] 23)).alloc (.cells #[I k, I n] 38)).alloc (.cells #[I 0, I 0] 38) = x := ⟨_, rfl⟩
  rw [hw2] at h0 h1 h2 hbw ⊢
  clear hw2
  have d1 := cell_at (var_bl h0 (Bl.rfl' w2).dr) 1
  have d2 := cell_at (var_bl h1 (Bl.rfl' w2).dr) 0
  have d3 := cell_at (var_bl h1 (Bl.rfl' w2).dr) 1
  simp only [List.getElem?_toArray, List.getElem?_cons_succ, List.getElem?_cons_zero] at d1 d2 d3
  have hB : Bl w2 w2.drew := (Bl.rfl' w2).dr
  obtain ⟨w3, hw3⟩ : ∃ x, w2.drew = x := ⟨_, rfl⟩
  rw [hw3] at d1 d2 d3 hB
  refine wp_region_still_tail 5 (by kernel_rfl) (by kernel_rfl) ?_
  simp only [List.take_succ_cons, List.take_zero, List.drop_succ_cons, List.drop_zero]
  change wpStill _ _ w2.drew (fun a' => wpList _ _ _ _ a' w2.drew) _ _
  rw [hw3]
  clear hw3
  repeat still_step
  try refine wpStill_nil ?_
  go_wp2_with fail
  refine (In.out _).mono ?_
  rintro e w5 ⟨rfl, hb5⟩
  have hb25 := hB.tr hb5
  replace h0 := var_bl h0 hb25
  replace h1 := var_bl h1 hb25
  replace h2 := var_bl h2 hb25
  replace hbw := hbw.tr hb25
  clear hb5 hb25 hB d1 d2 d3
  have e0 := cell_at h0 0; have e1 := cell_at h0 1; have e2 := cell_at h0 2
  have k0 := cell_at h1 0; have k1 := cell_at h1 1
  have z0 := cell_at h2 0; have z1 := cell_at h2 1
  simp only [List.getElem?_toArray, List.getElem?_cons_succ, List.getElem?_cons_zero] at e0 e1 e2 k0 k1 z0 z1
  have fr := free_at h1
  have fz := free_at h2
  have s1 := set_at 0 (I y) h1
  have s2 := set_at 1 (I c) s1
  have s3 := set_at 1 (I (c + g)) s2
  have g3 := gby_tr (gby_tr (gby_set w5 (w.heap.size + 1) 0 (I y)) (gby_set _ (w.heap.size + 1) 1 (I c))) (gby_set _ (w.heap.size + 1) 1 (I (c + g)))
  have u0 := cell_at s3 0
  have u1 := cell_at s3 1
  simp only [List.setIfInBounds_toArray, List.set_cons_zero, List.set_cons_succ, List.getElem?_toArray, List.getElem?_cons_succ, List.getElem?_cons_zero] at u0 u1
  have h2' := var_gby h2 g3 (by omega)
  have hb6 := hbw.gp g3 (by omega)
  clear s1 s2 s3 hbw g3
  replace hb6 := Lib.hid hb6; replace h2' := Lib.hid h2'
  go_wp2_with fail
  have hb6 := hb6.out; have h2' := h2'.out
  obtain ⟨w6, hw6⟩ : ∃ x, ((w5.setCell ⟨w.heap.size + 1, 0, none⟩ (I y)).setCell ⟨w.heap.size + 1, 1, none⟩ (I c)).setCell ⟨w.heap.size + 1, 1, none⟩ (I (c + g)) = x := ⟨_, rfl⟩
  rw [hw6] at hb6 h2' ⊢
  have t1 := set_at 0 (I y) h2'
  have t2 := set_at 1 (I (c + g)) t1
  have r0 := cell_at t2 0
  have r1 := cell_at t2 1
  simp only [List.setIfInBounds_toArray, List.set_cons_zero, List.set_cons_succ, List.getElem?_toArray, List.getElem?_cons_succ, List.getElem?_cons_zero] at r0 r1
  have g6 := gby_tr (gby_set w6 (w.heap.size + 1 + 1) 0 (I y)) (gby_set _ (w.heap.size + 1 + 1) 1 (I (c + g)))
  refine bodyPost_ret (v := one y (c + g)) (by simp [results, Try.results27, go_sem, r0, r1]) rfl ⟨rfl, hb6.gp g6 (by omega)⟩

set_option maxHeartbeats 800000 in
theorem ruse_any (L W S k n t : Int) (w : World) (hb : okR L W S) (t0 : 0 ≤ t) (t1 : t ≤ 1000000) (n0 : 0 ≤ n) (n1 : n ≤ 1000000) :
    Calls Try.prog 22 #[rate L W S, one k n, .int .i64 t] w fun e w' => e = .returned (.tuple #[one (t / W) (less (cur W k n t)), .bool (decide (0 < cur W k n t))]) ∧ Bl w w' := by
  have hc := cur_bd (W := W) (k := k) (t := t) n0 n1
  obtain ⟨l0, l1, w0, w1, s0, s1⟩ := hb
  have hq := div_bd t0 t1 w0
  have htd : t.tdiv W = t / W := Int.tdiv_eq_ediv_of_nonneg t0
  have In := fun w => in_any k n (t / W) w
  rw [show (if t / W = k then n else 0) = cur W k n t from rfl] at In
  obtain ⟨y, hy⟩ : ∃ y, t / W = y := ⟨_, rfl⟩
  obtain ⟨c, hcc⟩ : ∃ c, cur W k n t = c := ⟨_, rfl⟩
  rw [hy] at hq htd In ⊢
  rw [hcc] at hc In ⊢
  replace In := Lib.hid In
  have hwd : IntKind.i64.wrap (t.tdiv W) = y := by rw [htd, IntKind.wrap_i64]; omega
  have hW : ¬ W = 0 := by omega
  clear hy hcc
  by_cases hc0 : 0 < c
  · rw [decide_eq_true hc0, show less c = c - 1 from if_pos hc0]
    go_enter Try.func22, Try.ntmps22
    go_wp2_with fail
    have h0 := var_bl (heap_alloc_new w (.cells #[I L, I W, I S] 23)) (((Bl.rfl' _).al (.cells #[I k, I n] 38)).al (.cells #[I 0, I 0] 38))
    have h1 := var_bl (heap_alloc_new (w.alloc (.cells #[I L, I W, I S] 23)) (.cells #[I k, I n] 38)) ((Bl.rfl' _).al (.cells #[I 0, I 0] 38))
    have h2 := heap_alloc_new ((w.alloc (.cells #[I L, I W, I S] 23)).alloc (.cells #[I k, I n] 38)) (.cells #[I 0, I 0] 38)
    have hbw := (((Bl.rfl' w).al (.cells #[I L, I W, I S] 23)).al (.cells #[I k, I n] 38)).al (.cells #[I 0, I 0] 38)
    rw [show (w.alloc (.cells #[I L, I W, I S] 23)).heap.size = w.heap.size + 1 by simp] at h1
    rw [show ((w.alloc (.cells #[I L, I W, I S] 23)).alloc (.cells #[I k, I n] 38)).heap.size = w.heap.size + 1 + 1 by simp] at h2
    obtain ⟨w2, hw2⟩ : ∃ x, ((w.alloc (.cells #[I L, I W, I S] 23)).alloc (.cells #[I k, I n] 38)).alloc (.cells #[I 0, I 0] 38) = x := ⟨_, rfl⟩
    rw [hw2] at h0 h1 h2 hbw ⊢
    clear hw2
    have d1 := cell_at (var_bl h0 (Bl.rfl' w2).dr) 1
    have d2 := cell_at (var_bl h1 (Bl.rfl' w2).dr) 0
    have d3 := cell_at (var_bl h1 (Bl.rfl' w2).dr) 1
    simp only [List.getElem?_toArray, List.getElem?_cons_succ, List.getElem?_cons_zero] at d1 d2 d3
    have hB : Bl w2 w2.drew := (Bl.rfl' w2).dr
    obtain ⟨w3, hw3⟩ : ∃ x, w2.drew = x := ⟨_, rfl⟩
    rw [hw3] at d1 d2 d3 hB
    refine wp_region_still_tail 5 (by kernel_rfl) (by kernel_rfl) ?_
    simp only [List.take_succ_cons, List.take_zero, List.drop_succ_cons, List.drop_zero]
    change wpStill _ _ w2.drew (fun a' => wpList _ _ _ _ a' w2.drew) _ _
    rw [hw3]
    clear hw3
    repeat still_step
    try refine wpStill_nil ?_
    go_wp2_with fail
    refine (In.out _).mono ?_
    rintro e w5 ⟨rfl, hb5⟩
    have hb25 := hB.tr hb5
    replace h0 := var_bl h0 hb25
    replace h1 := var_bl h1 hb25
    replace h2 := var_bl h2 hb25
    replace hbw := hbw.tr hb25
    clear hb5 hb25 hB d1 d2 d3
    have e0 := cell_at h0 0; have e1 := cell_at h0 1; have e2 := cell_at h0 2
    have k0 := cell_at h1 0; have k1 := cell_at h1 1
    have z0 := cell_at h2 0; have z1 := cell_at h2 1
    simp only [List.getElem?_toArray, List.getElem?_cons_succ, List.getElem?_cons_zero] at e0 e1 e2 k0 k1 z0 z1
    have fr := free_at h1
    have fz := free_at h2
    have s1 := set_at 0 (I y) h1
    have s2 := set_at 1 (I c) s1
    have s3 := set_at 1 (I (c - 1)) s2
    have g3 := gby_tr (gby_tr (gby_set w5 (w.heap.size + 1) 0 (I y)) (gby_set _ (w.heap.size + 1) 1 (I c))) (gby_set _ (w.heap.size + 1) 1 (I (c - 1)))
    have u0 := cell_at s3 0
    have u1 := cell_at s3 1
    simp only [List.setIfInBounds_toArray, List.set_cons_zero, List.set_cons_succ, List.getElem?_toArray, List.getElem?_cons_succ, List.getElem?_cons_zero] at u0 u1
    have h2' := var_gby h2 g3 (by omega)
    have hb6 := hbw.gp g3 (by omega)
    clear s1 s2 s3 hbw g3
    replace hb6 := Lib.hid hb6; replace h2' := Lib.hid h2'
    go_wp2_with fail
    have hb6 := hb6.out; have h2' := h2'.out
    obtain ⟨w6, hw6⟩ : ∃ x, ((w5.setCell ⟨w.heap.size + 1, 0, none⟩ (I y)).setCell ⟨w.heap.size + 1, 1, none⟩ (I c)).setCell ⟨w.heap.size + 1, 1, none⟩ (I (c - 1)) = x := ⟨_, rfl⟩
    rw [hw6] at hb6 h2' ⊢
    have t1 := set_at 0 (I y) h2'
    have t2 := set_at 1 (I (c - 1)) t1
    have r0 := cell_at t2 0
    have r1 := cell_at t2 1
    simp only [List.setIfInBounds_toArray, List.set_cons_zero, List.set_cons_succ, List.getElem?_toArray, List.getElem?_cons_succ, List.getElem?_cons_zero] at r0 r1
    have g6 := gby_tr (gby_set w6 (w.heap.size + 1 + 1) 0 (I y)) (gby_set _ (w.heap.size + 1 + 1) 1 (I (c - 1)))
    refine bodyPost_ret (v := .tuple #[one y (c - 1), .bool true]) (by simp [results, Try.results22, go_sem, r0, r1]) rfl ⟨rfl, hb6.gp g6 (by omega)⟩
  · rw [decide_eq_false hc0, show less c = c from if_neg hc0]
    go_enter Try.func22, Try.ntmps22
    go_wp2_with fail
    have h0 := var_bl (heap_alloc_new w (.cells #[I L, I W, I S] 23)) (((Bl.rfl' _).al (.cells #[I k, I n] 38)).al (.cells #[I 0, I 0] 38))
    have h1 := var_bl (heap_alloc_new (w.alloc (.cells #[I L, I W, I S] 23)) (.cells #[I k, I n] 38)) ((Bl.rfl' _).al (.cells #[I 0, I 0] 38))
    have h2 := heap_alloc_new ((w.alloc (.cells #[I L, I W, I S] 23)).alloc (.cells #[I k, I n] 38)) (.cells #[I 0, I 0] 38)
    have hbw := (((Bl.rfl' w).al (.cells #[I L, I W, I S] 23)).al (.cells #[I k, I n] 38)).al (.cells #[I 0, I 0] 38)
    rw [show (w.alloc (.cells #[I L, I W, I S] 23)).heap.size = w.heap.size + 1 by simp] at h1
    rw [show ((w.alloc (.cells #[I L, I W, I S] 23)).alloc (.cells #[I k, I n] 38)).heap.size = w.heap.size + 1 + 1 by simp] at h2
    obtain ⟨w2, hw2⟩ : ∃ x, ((w.alloc (.cells #[I L, I W, I S] 23)).alloc (.cells #[I k, I n] 38)).alloc (.cells #[I 0, I 0] 38) = x := ⟨_, rfl⟩
    rw [hw2] at h0 h1 h2 hbw ⊢
    clear hw2
    have d1 := cell_at (var_bl h0 (Bl.rfl' w2).dr) 1
    have d2 := cell_at (var_bl h1 (Bl.rfl' w2).dr) 0
    have d3 := cell_at (var_bl h1 (Bl.rfl' w2).dr) 1
    simp only [List.getElem?_toArray, List.getElem?_cons_succ, List.getElem?_cons_zero] at d1 d2 d3
    have hB : Bl w2 w2.drew := (Bl.rfl' w2).dr
    obtain ⟨w3, hw3⟩ : ∃ x, w2.drew = x := ⟨_, rfl⟩
    rw [hw3] at d1 d2 d3 hB
    refine wp_region_still_tail 5 (by kernel_rfl) (by kernel_rfl) ?_
    simp only [List.take_succ_cons, List.take_zero, List.drop_succ_cons, List.drop_zero]
    change wpStill _ _ w2.drew (fun a' => wpList _ _ _ _ a' w2.drew) _ _
    rw [hw3]
    clear hw3
    repeat still_step
    try refine wpStill_nil ?_
    go_wp2_with fail
    refine (In.out _).mono ?_
    rintro e w5 ⟨rfl, hb5⟩
    have hb25 := hB.tr hb5
    replace h0 := var_bl h0 hb25
    replace h1 := var_bl h1 hb25
    replace h2 := var_bl h2 hb25
    replace hbw := hbw.tr hb25
    clear hb5 hb25 hB d1 d2 d3
    have e0 := cell_at h0 0; have e1 := cell_at h0 1; have e2 := cell_at h0 2
    have k0 := cell_at h1 0; have k1 := cell_at h1 1
    have z0 := cell_at h2 0; have z1 := cell_at h2 1
    simp only [List.getElem?_toArray, List.getElem?_cons_succ, List.getElem?_cons_zero] at e0 e1 e2 k0 k1 z0 z1
    have fr := free_at h1
    have fz := free_at h2
    have s1 := set_at 0 (I y) h1
    have s2 := set_at 1 (I c) s1
    have g3 := gby_tr (gby_set w5 (w.heap.size + 1) 0 (I y)) (gby_set _ (w.heap.size + 1) 1 (I c))
    have u0 := cell_at s2 0
    have u1 := cell_at s2 1
    simp only [List.setIfInBounds_toArray, List.set_cons_zero, List.set_cons_succ, List.getElem?_toArray, List.getElem?_cons_succ, List.getElem?_cons_zero] at u0 u1
    have h2' := var_gby h2 g3 (by omega)
    have hb6 := hbw.gp g3 (by omega)
    clear s1 s2 hbw g3
    replace hb6 := Lib.hid hb6; replace h2' := Lib.hid h2'
    go_wp2_with fail
    have hb6 := hb6.out; have h2' := h2'.out
    obtain ⟨w6, hw6⟩ : ∃ x, (w5.setCell ⟨w.heap.size + 1, 0, none⟩ (I y)).setCell ⟨w.heap.size + 1, 1, none⟩ (I c) = x := ⟨_, rfl⟩
    rw [hw6] at hb6 h2' ⊢
    have t1 := set_at 0 (I y) h2'
    have t2 := set_at 1 (I (c)) t1
    have r0 := cell_at t2 0
    have r1 := cell_at t2 1
    simp only [List.setIfInBounds_toArray, List.set_cons_zero, List.set_cons_succ, List.getElem?_toArray, List.getElem?_cons_succ, List.getElem?_cons_zero] at r0 r1
    have g6 := gby_tr (gby_set w6 (w.heap.size + 1 + 1) 0 (I y)) (gby_set _ (w.heap.size + 1 + 1) 1 (I (c)))
    refine bodyPost_ret (v := .tuple #[one y c, .bool false]) (by simp [results, Try.results22, go_sem, r0, r1]) rfl ⟨rfl, hb6.gp g6 (by omega)⟩
end Go.Proofs.Ytifmoekgnbgnmaa.lease
