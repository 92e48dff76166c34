/-
  Package match: rank.
-/
import Derived.Test.YtpdcadlgdpkkoaaMaD
namespace Go.Proofs.Ytpdcadlgdpkkoaa.mat
open Go.ChangeShapes Go.WideShapes Go.ChangeAt Go.RowKit
open Go.Proofs.Ytpdcadlgdpkkoaa.heads
set_option linter.unusedVariables false
set_option linter.unusedSimpArgs false

abbrev oR (a b c : Int) : Obj := .cells #[I a, I b, I c] 55
abbrev rV (a b c : Int) : Value := .agg #[I a, I b, I c]
def bI (x : Bool) : Int := if x = true then 1 else 0
theorem count_any (s : ByteArray) (w : World) : Calls Try.prog 42 #[S s, S sl] w fun e w' => e = .returned (I (cntB s s.size)) ∧ w = w' :=
  (Try.strings_Count_one s 47 w).mono fun e w' ⟨h1, h2⟩ => ⟨by rw [h1, ← cnt_all]; rfl, h2.symm⟩
/-- An array that is stored over another one. -/
theorem three_set {w : World} {y : Nat} {a b c : Int} (h : w.heap[y]? = some (oR a b c)) (a' b' c' : Int) :
    (((w.setCell ⟨y, 0, none⟩ (I a')).setCell ⟨y, 1, none⟩ (I b')).setCell ⟨y, 2, none⟩ (I c')).heap[y]? = some (oR a' b' c') := by
  have h1 := set_at 0 (I a') h
  have h2 := set_at 1 (I b') h1
  have h3 := set_at 2 (I c') h2
  simpa using h3
theorem three_bl (w : World) (y : Nat) (a' b' c' : Int) :
    w.grownBy (((w.setCell ⟨y, 0, none⟩ (I a')).setCell ⟨y, 1, none⟩ (I b')).setCell ⟨y, 2, none⟩ (I c')) (some y) :=
  gby_tr (gby_tr (gby_set w y 0 _) (gby_set _ y 1 _)) (gby_set _ y 2 _)
set_option maxRecDepth 20000 in
set_option maxHeartbeats 4000000 in
theorem rank_any (p : ByteArray) (x : Bool) (a : Option Addr) (n cap : Nat) (w : World) (hn : n ≤ 1000000) (hp : p.size ≤ 1000000) :
    Calls Try.prog 31 #[mV p x (.slice a n cap)] w fun e w' => e = .returned (rV (bI x) (partsN p) n) ∧ Bl w w' := by
  have CN := Lib.hid (fun w => count_any p w)
  have he := eq_sl p
  have hpn : partsN p = if p = sl then 0 else cntB p p.size := rfl
  obtain ⟨k, hk⟩ : ∃ z_, (cntB p p.size) = z_ := ⟨_, rfl⟩
  rw [hk] at hpn
  simp only [hk] at CN
  clear hk
  obtain ⟨w1, h1⟩ : ∃ X, w.alloc (oM p x (.slice a n cap)) = X := ⟨_, rfl⟩
  obtain ⟨w2, h2⟩ : ∃ X, w1.alloc (oR 0 0 0) = X := ⟨_, rfl⟩
  obtain ⟨r1, e1⟩ : ∃ r, w.heap.size = r := ⟨_, rfl⟩
  obtain ⟨r2, e2⟩ : ∃ r, w1.heap.size = r := ⟨_, rfl⟩
  obtain ⟨r3, e3⟩ : ∃ r, w2.heap.size = r := ⟨_, rfl⟩
  have b1 : w1.heap[r1]? = some (oM p x (.slice a n cap)) := by rw [← h1, ← e1]; exact heap_alloc_new w _
  have b2 : w2.heap[r2]? = some (oR 0 0 0) := by rw [← h2, ← e2]; exact heap_alloc_new w1 _
  have q1 : Bl w w1 := by rw [← h1]; exact (Bl.rfl' w).al _
  have q2 : Bl w1 w2 := by rw [← h2]; exact (Bl.rfl' w1).al _
  have b12 := blk_bl b1 q2
  have b1d : w2.drew.heap[r1]? = some (oM p x (.slice a n cap)) := b12
  have q2d := q2.dr
  have k0 := cell_at b1d 0
  have k2 := cell_at b1d 2
  have m0 := cell_at (blk_bl b1d ((Bl.rfl' w2.drew).al (oR 0 0 0))) 0
  have m2 := cell_at (blk_bl b1d ((Bl.rfl' w2.drew).al (oR 0 0 0))) 2
  have n0 := cell_at (blk_bl b1d ((Bl.rfl' w2.drew).al (oR 0 k n))) 0
  have n2 := cell_at (blk_bl b1d ((Bl.rfl' w2.drew).al (oR 0 k n))) 2
  simp only [List.getElem?_toArray, List.getElem?_cons_succ, List.getElem?_cons_zero] at k0 k2 m0 m2 n0 n2
  go_enter Try.func31, Try.ntmps31
  go_wp2_with fail
  refine wp_region_held_drew (S := fun w' => w'.cell? ⟨r1, 0, none⟩ = some (S p) ∧ w'.cell? ⟨r1, 2, none⟩ = some (.slice a n cap)) (by kernel_rfl) ?_ (fun hHeld => ?_)
  · exact ⟨k0, k2⟩
  refine wpAnyH_take (i := 0) (v := ?v0_1) rfl (by kernel_rfl) (by kernel_rfl) (by kernel_rfl) (fun _ _ _ h => h) (Or.inl ⟨by rfl, ?y0_1⟩) hHeld ?r0_1
  case y0_1 => (intro w hSw; (try dsimp only at hSw); go_split_ands; go_simp; try with_reducible rfl)
  try simp only [List.getElem_toArray, List.getElem_cons_succ, List.getElem_cons_zero, Act.put, List.setIfInBounds_toArray, List.set_cons_zero, List.set_cons_succ]
  refine wpAnyH_take (i := 1) (v := ?v1_2) rfl (by kernel_rfl) (by kernel_rfl) (by kernel_rfl) (fun _ _ _ h => h) (Or.inl ⟨by rfl, ?y1_2⟩) hHeld ?r1_2
  case y1_2 => (intro w hSw; (try dsimp only at hSw); go_split_ands; go_simp; try with_reducible rfl)
  try simp only [List.getElem_toArray, List.getElem_cons_succ, List.getElem_cons_zero, Act.put, List.setIfInBounds_toArray, List.set_cons_zero, List.set_cons_succ]
  refine wpAnyH_take (i := 3) (v := ?v3_3) rfl (by kernel_rfl) (by kernel_rfl) (by kernel_rfl) (fun _ _ _ h => h) (Or.inl ⟨by rfl, ?y3_3⟩) hHeld ?r3_3
  case y3_3 => (intro w hSw; (try dsimp only at hSw); go_split_ands; go_simp; try with_reducible rfl)
  try simp only [List.getElem_toArray, List.getElem_cons_succ, List.getElem_cons_zero, Act.put, List.setIfInBounds_toArray, List.set_cons_zero, List.set_cons_succ]
  refine wpAnyH_take (i := 4) (v := ?v4_4) rfl (by kernel_rfl) (by kernel_rfl) (by kernel_rfl) (fun _ _ _ h => h) (Or.inl ⟨by rfl, ?y4_4⟩) hHeld ?r4_4
  case y4_4 => (intro w hSw; (try dsimp only at hSw); go_split_ands; go_simp; try with_reducible rfl)
  try simp only [List.getElem_toArray, List.getElem_cons_succ, List.getElem_cons_zero, Act.put, List.setIfInBounds_toArray, List.set_cons_zero, List.set_cons_succ]
  refine wpAnyH_take (i := 5) (v := ?v5_5) rfl (by kernel_rfl) (by kernel_rfl) (by kernel_rfl) (fun _ _ _ h => h) (Or.inl ⟨by rfl, ?y5_5⟩) hHeld ?r5_5
  case y5_5 => (intro w hSw; (try dsimp only at hSw); go_split_ands; go_simp; try with_reducible rfl)
  try simp only [List.getElem_toArray, List.getElem_cons_succ, List.getElem_cons_zero, Act.put, List.setIfInBounds_toArray, List.set_cons_zero, List.set_cons_succ]
  refine wpAnyH_ready (rs := [2, 7]) (by kernel_rfl) (by simp) ?_
  refine AllReadyH.cons rfl (fun K hK => ?_) (AllReadyH.cons rfl (fun K hK => ?_) (AllReadyH.nil))
  · have hHeld' := hHeld
    try dsimp only at hHeld'
    go_split_ands
    go_simp
    with_reducible refine (CN.out _).mono ?_
    rintro e w' ⟨rfl, rfl⟩
    refine hK.out _ _ ?_ (fun hHeld => ?_)
    · exact ⟨k0, k2⟩
    clear hK K
    try simp only [List.getElem_toArray, List.getElem_cons_succ, List.getElem_cons_zero, Act.put, List.setIfInBounds_toArray, List.set_cons_zero, List.set_cons_succ]
    refine wpAnyH_take (i := 6) (v := ?v6_6) rfl (by kernel_rfl) (by kernel_rfl) (by kernel_rfl) (fun _ _ _ h => h) (Or.inl ⟨by rfl, ?y6_6⟩) hHeld ?r6_6
    case y6_6 => (intro w hSw; (try dsimp only at hSw); go_split_ands; go_simp; try with_reducible rfl)
    try simp only [List.getElem_toArray, List.getElem_cons_succ, List.getElem_cons_zero, Act.put, List.setIfInBounds_toArray, List.set_cons_zero, List.set_cons_succ]
    refine wpAnyH_ready (rs := [7]) (by kernel_rfl) (by simp) ?_
    refine AllReadyH.cons rfl (fun K hK => ?_) AllReadyH.nil
    have hHeld' := hHeld
    try dsimp only at hHeld'
    go_split_ands
    go_simp
    refine hK.out _ _ ?_ (fun hHeld => ?_)
    · exact ⟨m0, m2⟩
    clear hK K
    try simp only [List.getElem_toArray, List.getElem_cons_succ, List.getElem_cons_zero, Act.put, List.setIfInBounds_toArray, List.set_cons_zero, List.set_cons_succ]
    refine wpAnyH_ready (rs := [8]) (by kernel_rfl) (by simp) ?_
    refine AllReadyH.cons rfl (fun K hK => ?_) AllReadyH.nil
    have hHeld' := hHeld
    try dsimp only at hHeld'
    go_split_ands
    go_simp
    refine hK.out _ _ ?_ (fun hHeld => ?_)
    · exact ⟨n0, n2⟩
    clear hK K
    try simp only [List.getElem_toArray, List.getElem_cons_succ, List.getElem_cons_zero, Act.put, List.setIfInBounds_toArray, List.set_cons_zero, List.set_cons_succ]
    refine wpAnyH_done (by kernel_rfl) ?_ _
    have g3 : (w2.alloc (oR 0 k n)).drew.heap[r3]? = some (oR 0 k n) := by rw [← e3]; exact heap_alloc_new w2 _
    have g2 : (w2.alloc (oR 0 k n)).drew.heap[r2]? = some (oR 0 0 0) := blk_bl b2 (((Bl.rfl' w2).al (oR 0 k n)).dr)
    have g1 : (w2.alloc (oR 0 k n)).drew.heap[r1]? = some (oM p x (.slice a n cap)) := blk_bl b12 (((Bl.rfl' w2).al (oR 0 k n)).dr)
    have gb : Bl w (w2.alloc (oR 0 k n)).drew := (q1.tr q2).tr (((Bl.rfl' w2).al (oR 0 k n)).dr)
    have l12 : r1 < r2 := by rw [← e2]; exact lt_of_block b1
    have l23 : r2 < r3 := by rw [← e3]; exact lt_of_block b2
    have ge1 : w.heap.size ≤ r1 := by omega
    obtain ⟨z3, hz3⟩ : ∃ X, (w2.alloc (oR 0 k n)).drew = X := ⟨_, rfl⟩
    rw [hz3] at g1 g2 g3 gb
    have hz3' : (w2.alloc (.cells #[.int .i64 0, .int .i64 k, .int .i64 n] 55)).drew = z3 := hz3
    rw [hz3']
    clear hz3 hz3' b1 b2 b12 q2d k0 k2 m0 m2 n0 n2 q1 q2 b1d hHeld CN e1 e2 e3 h1 h2
    have f3 := free_at g3
    have f2 := free_at g2
    have x1 := cell_at g1 1
    have y3 := cell_at g3 0
    simp only [List.getElem?_toArray, List.getElem?_cons_succ, List.getElem?_cons_zero] at x1 y3
    obtain ⟨z4, hx4, d3, d2, d1, db⟩ : ∃ z4, (bif x then z3.setCell ⟨r3, 0, none⟩ (I 1) else z3) = z4 ∧ z4.heap[r3]? = some (oR (bI x) k n) ∧ z4.heap[r2]? = some (oR 0 0 0) ∧ z4.heap[r1]? = some (oM p x (.slice a n cap)) ∧ Bl w z4 := by
      cases x with
      | false => exact ⟨_, rfl, g3, g2, g1, gb⟩
      | true =>
        refine ⟨_, rfl, by have := set_at 0 (I 1) g3; simp only [List.setIfInBounds_toArray, List.set_cons_zero] at this; exact this, ?_, ?_, gb.gp (gby_set z3 r3 0 _) (by omega)⟩
        · exact ((gby_set z3 r3 0 (I 1)).block _ (lt_of_block g2) (fun e => by cases e; omega)).trans g2
        · exact ((gby_set z3 r3 0 (I 1)).block _ (lt_of_block g1) (fun e => by cases e; omega)).trans g1
    have x0 := cell_at d1 0
    have y4 := cell_at d3 1
    have f4 := free_at d3
    simp only [List.getElem?_toArray, List.getElem?_cons_succ, List.getElem?_cons_zero] at x0 y4
    obtain ⟨z5, hx5, s3, s2, sb⟩ : ∃ z5, (bif decide (p = sl) then z4.setCell ⟨r3, 1, none⟩ (I 0) else z4) = z5 ∧ z5.heap[r3]? = some (oR (bI x) (partsN p) n) ∧ z5.heap[r2]? = some (oR 0 0 0) ∧ Bl w z5 := by
      rw [hpn]
      by_cases hp : p = sl
      · rw [decide_eq_true hp, if_pos hp]
        refine ⟨_, rfl, by have := set_at 1 (I 0) d3; simp only [List.setIfInBounds_toArray, List.set_cons_zero, List.set_cons_succ] at this; exact this, ?_, db.gp (gby_set z4 r3 1 _) (by omega)⟩
        exact ((gby_set z4 r3 1 (I 0)).block _ (lt_of_block d2) (fun e => by cases e; omega)).trans d2
      · rw [decide_eq_false hp, if_neg hp]
        exact ⟨_, rfl, d3, d2, db⟩
    obtain ⟨kk, hkk⟩ : ∃ z_, ((partsN p : Int)) = z_ := ⟨_, rfl⟩
    obtain ⟨bx, hbx⟩ : ∃ z_, (bI x) = z_ := ⟨_, rfl⟩
    rw [hkk, hbx] at s3
    have c3 := cell_at s3 0
    have c4 := cell_at s3 1
    have c5 := cell_at s3 2
    have c6 := cell_at s2 0
    have c7 := cell_at s2 1
    have c8 := cell_at s2 2
    simp only [List.getElem?_toArray, List.getElem?_cons_succ, List.getElem?_cons_zero] at c3 c4 c5 c6 c7 c8
    have f5 := free_at s2
    have f0 := three_set s2 bx kk n
    have f6 := sb.gp (three_bl z5 r2 bx kk n) (by omega)
    have r0 := cell_at f0 0
    have r1' := cell_at f0 1
    have r2' := cell_at f0 2
    simp only [List.getElem?_toArray, List.getElem?_cons_succ, List.getElem?_cons_zero] at r0 r1' r2'
    obtain ⟨z6, hz6⟩ : ∃ X, (((z5.setCell ⟨r2, 0, none⟩ (I bx)).setCell ⟨r2, 1, none⟩ (I kk)).setCell ⟨r2, 2, none⟩ (I n)) = X := ⟨_, rfl⟩
    rw [hz6] at f0 f6 r0 r1' r2'
    clear g1 g2 g3 d1 d2 d3 s2 s3 gb db f0 sb
    obtain ⟨pb, hpb⟩ : ∃ z_, (decide (p = sl)) = z_ := ⟨_, rfl⟩
    rw [hpb] at he hx5
    clear hpb hpn
    replace f6 := Lib.hid f6
    replace hkk := Lib.hid hkk
    replace hbx := Lib.hid hbx
    clear l12 l23 ge1
    have hk4 : x = false → z3 = z4 := fun h => by rw [h] at hx4; exact hx4
    have hk5 : pb = false → z4 = z5 := fun h => by rw [h] at hx5; exact hx5
    cases x <;> cases pb <;> simp only [cond_true, cond_false] at hx4 hx5
    · obtain rfl := hk4 rfl
      obtain rfl := hk5 rfl
      clear hx4 hx5 hk4 hk5 y3 y4
      go_wp2_with fail
      refine bodyPost_ret (v := rV bx kk n) (by simp [results, Try.results31, go_sem, r0, r1', r2']) rfl ?_
      exact ⟨by rw [← hkk.out, ← hbx.out], f6.out⟩
    · obtain rfl := hk4 rfl
      clear hx4 hk4 hk5
      go_wp2_with fail
      refine bodyPost_ret (v := rV bx kk n) (by simp [results, Try.results31, go_sem, r0, r1', r2']) rfl ?_
      exact ⟨by rw [← hkk.out, ← hbx.out], f6.out⟩
    · obtain rfl := hk5 rfl
      clear hx5 hk4 hk5 y4
      go_wp2_with fail
      refine bodyPost_ret (v := rV bx kk n) (by simp [results, Try.results31, go_sem, r0, r1', r2']) rfl ?_
      exact ⟨by rw [← hkk.out, ← hbx.out], f6.out⟩
    · clear hk4 hk5
      go_wp2_with fail
      refine bodyPost_ret (v := rV bx kk n) (by simp [results, Try.results31, go_sem, r0, r1', r2']) rfl ?_
      exact ⟨by rw [← hkk.out, ← hbx.out], f6.out⟩
  · have hHeld' := hHeld
    try dsimp only at hHeld'
    go_split_ands
    go_simp
    refine hK.out _ _ ?_ (fun hHeld => ?_)
    · exact ⟨m0, m2⟩
    clear hK K
    try simp only [List.getElem_toArray, List.getElem_cons_succ, List.getElem_cons_zero, Act.put, List.setIfInBounds_toArray, List.set_cons_zero, List.set_cons_succ]
    refine wpAnyH_ready (rs := [2]) (by kernel_rfl) (by simp) ?_
    refine AllReadyH.cons rfl (fun K hK => ?_) AllReadyH.nil
    have hHeld' := hHeld
    try dsimp only at hHeld'
    go_split_ands
    go_simp
    with_reducible refine (CN.out _).mono ?_
    rintro e w' ⟨rfl, rfl⟩
    refine hK.out _ _ ?_ (fun hHeld => ?_)
    · exact ⟨m0, m2⟩
    clear hK K
    try simp only [List.getElem_toArray, List.getElem_cons_succ, List.getElem_cons_zero, Act.put, List.setIfInBounds_toArray, List.set_cons_zero, List.set_cons_succ]
    refine wpAnyH_take (i := 6) (v := ?v6_7) rfl (by kernel_rfl) (by kernel_rfl) (by kernel_rfl) (fun _ _ _ h => h) (Or.inl ⟨by rfl, ?y6_7⟩) hHeld ?r6_7
    case y6_7 => (intro w hSw; (try dsimp only at hSw); go_split_ands; go_simp; try with_reducible rfl)
    try simp only [List.getElem_toArray, List.getElem_cons_succ, List.getElem_cons_zero, Act.put, List.setIfInBounds_toArray, List.set_cons_zero, List.set_cons_succ]
    refine wpAnyH_ready (rs := [8]) (by kernel_rfl) (by simp) ?_
    refine AllReadyH.cons rfl (fun K hK => ?_) AllReadyH.nil
    have hHeld' := hHeld
    try dsimp only at hHeld'
    go_split_ands
    go_simp
    refine hK.out _ _ ?_ (fun hHeld => ?_)
    · exact ⟨n0, n2⟩
    clear hK K
    try simp only [List.getElem_toArray, List.getElem_cons_succ, List.getElem_cons_zero, Act.put, List.setIfInBounds_toArray, List.set_cons_zero, List.set_cons_succ]
    refine wpAnyH_done (by kernel_rfl) ?_ _
    have g3 : (w2.alloc (oR 0 k n)).drew.heap[r3]? = some (oR 0 k n) := by rw [← e3]; exact heap_alloc_new w2 _
    have g2 : (w2.alloc (oR 0 k n)).drew.heap[r2]? = some (oR 0 0 0) := blk_bl b2 (((Bl.rfl' w2).al (oR 0 k n)).dr)
    have g1 : (w2.alloc (oR 0 k n)).drew.heap[r1]? = some (oM p x (.slice a n cap)) := blk_bl b12 (((Bl.rfl' w2).al (oR 0 k n)).dr)
    have gb : Bl w (w2.alloc (oR 0 k n)).drew := (q1.tr q2).tr (((Bl.rfl' w2).al (oR 0 k n)).dr)
    have l12 : r1 < r2 := by rw [← e2]; exact lt_of_block b1
    have l23 : r2 < r3 := by rw [← e3]; exact lt_of_block b2
    have ge1 : w.heap.size ≤ r1 := by omega
    obtain ⟨z3, hz3⟩ : ∃ X, (w2.alloc (oR 0 k n)).drew = X := ⟨_, rfl⟩
    rw [hz3] at g1 g2 g3 gb
    have hz3' : (w2.alloc (.cells #[.int .i64 0, .int .i64 k, .int .i64 n] 55)).drew = z3 := hz3
    rw [hz3']
    clear hz3 hz3' b1 b2 b12 q2d k0 k2 m0 m2 n0 n2 q1 q2 b1d hHeld CN e1 e2 e3 h1 h2
    have f3 := free_at g3
    have f2 := free_at g2
    have x1 := cell_at g1 1
    have y3 := cell_at g3 0
    simp only [List.getElem?_toArray, List.getElem?_cons_succ, List.getElem?_cons_zero] at x1 y3
    obtain ⟨z4, hx4, d3, d2, d1, db⟩ : ∃ z4, (bif x then z3.setCell ⟨r3, 0, none⟩ (I 1) else z3) = z4 ∧ z4.heap[r3]? = some (oR (bI x) k n) ∧ z4.heap[r2]? = some (oR 0 0 0) ∧ z4.heap[r1]? = some (oM p x (.slice a n cap)) ∧ Bl w z4 := by
      cases x with
      | false => exact ⟨_, rfl, g3, g2, g1, gb⟩
      | true =>
        refine ⟨_, rfl, by have := set_at 0 (I 1) g3; simp only [List.setIfInBounds_toArray, List.set_cons_zero] at this; exact this, ?_, ?_, gb.gp (gby_set z3 r3 0 _) (by omega)⟩
        · exact ((gby_set z3 r3 0 (I 1)).block _ (lt_of_block g2) (fun e => by cases e; omega)).trans g2
        · exact ((gby_set z3 r3 0 (I 1)).block _ (lt_of_block g1) (fun e => by cases e; omega)).trans g1
    have x0 := cell_at d1 0
    have y4 := cell_at d3 1
    have f4 := free_at d3
    simp only [List.getElem?_toArray, List.getElem?_cons_succ, List.getElem?_cons_zero] at x0 y4
    obtain ⟨z5, hx5, s3, s2, sb⟩ : ∃ z5, (bif decide (p = sl) then z4.setCell ⟨r3, 1, none⟩ (I 0) else z4) = z5 ∧ z5.heap[r3]? = some (oR (bI x) (partsN p) n) ∧ z5.heap[r2]? = some (oR 0 0 0) ∧ Bl w z5 := by
      rw [hpn]
      by_cases hp : p = sl
      · rw [decide_eq_true hp, if_pos hp]
        refine ⟨_, rfl, by have := set_at 1 (I 0) d3; simp only [List.setIfInBounds_toArray, List.set_cons_zero, List.set_cons_succ] at this; exact this, ?_, db.gp (gby_set z4 r3 1 _) (by omega)⟩
        exact ((gby_set z4 r3 1 (I 0)).block _ (lt_of_block d2) (fun e => by cases e; omega)).trans d2
      · rw [decide_eq_false hp, if_neg hp]
        exact ⟨_, rfl, d3, d2, db⟩
    obtain ⟨kk, hkk⟩ : ∃ z_, ((partsN p : Int)) = z_ := ⟨_, rfl⟩
    obtain ⟨bx, hbx⟩ : ∃ z_, (bI x) = z_ := ⟨_, rfl⟩
    rw [hkk, hbx] at s3
    have c3 := cell_at s3 0
    have c4 := cell_at s3 1
    have c5 := cell_at s3 2
    have c6 := cell_at s2 0
    have c7 := cell_at s2 1
    have c8 := cell_at s2 2
    simp only [List.getElem?_toArray, List.getElem?_cons_succ, List.getElem?_cons_zero] at c3 c4 c5 c6 c7 c8
    have f5 := free_at s2
    have f0 := three_set s2 bx kk n
    have f6 := sb.gp (three_bl z5 r2 bx kk n) (by omega)
    have r0 := cell_at f0 0
    have r1' := cell_at f0 1
    have r2' := cell_at f0 2
    simp only [List.getElem?_toArray, List.getElem?_cons_succ, List.getElem?_cons_zero] at r0 r1' r2'
    obtain ⟨z6, hz6⟩ : ∃ X, (((z5.setCell ⟨r2, 0, none⟩ (I bx)).setCell ⟨r2, 1, none⟩ (I kk)).setCell ⟨r2, 2, none⟩ (I n)) = X := ⟨_, rfl⟩
    rw [hz6] at f0 f6 r0 r1' r2'
    clear g1 g2 g3 d1 d2 d3 s2 s3 gb db f0 sb
    obtain ⟨pb, hpb⟩ : ∃ z_, (decide (p = sl)) = z_ := ⟨_, rfl⟩
    rw [hpb] at he hx5
    clear hpb hpn
    replace f6 := Lib.hid f6
    replace hkk := Lib.hid hkk
    replace hbx := Lib.hid hbx
    clear l12 l23 ge1
    have hk4 : x = false → z3 = z4 := fun h => by rw [h] at hx4; exact hx4
    have hk5 : pb = false → z4 = z5 := fun h => by rw [h] at hx5; exact hx5
    cases x <;> cases pb <;> simp only [cond_true, cond_false] at hx4 hx5
    · obtain rfl := hk4 rfl
      obtain rfl := hk5 rfl
      clear hx4 hx5 hk4 hk5 y3 y4
      go_wp2_with fail
      refine bodyPost_ret (v := rV bx kk n) (by simp [results, Try.results31, go_sem, r0, r1', r2']) rfl ?_
      exact ⟨by rw [← hkk.out, ← hbx.out], f6.out⟩
    · obtain rfl := hk4 rfl
      clear hx4 hk4 hk5
      go_wp2_with fail
      refine bodyPost_ret (v := rV bx kk n) (by simp [results, Try.results31, go_sem, r0, r1', r2']) rfl ?_
      exact ⟨by rw [← hkk.out, ← hbx.out], f6.out⟩
    · obtain rfl := hk5 rfl
      clear hx5 hk4 hk5 y4
      go_wp2_with fail
      refine bodyPost_ret (v := rV bx kk n) (by simp [results, Try.results31, go_sem, r0, r1', r2']) rfl ?_
      exact ⟨by rw [← hkk.out, ← hbx.out], f6.out⟩
    · clear hk4 hk5
      go_wp2_with fail
      refine bodyPost_ret (v := rV bx kk n) (by simp [results, Try.results31, go_sem, r0, r1', r2']) rfl ?_
      exact ⟨by rw [← hkk.out, ← hbx.out], f6.out⟩
end Go.Proofs.Ytpdcadlgdpkkoaa.mat
