/-
  Package match: the example; paths made of numbers.
-/
import Derived.Test.YtpdcadlgdpkkoaaMaF
import Derived.Test.YtpdcadlgdpkkoaaAround
namespace Go.Proofs.Ytpdcadlgdpkkoaa.mat
open Go.ChangeShapes Go.WideShapes Go.ChangeAt Go.RowKit
open Go.Proofs.Ytpdcadlgdpkkoaa.heads
set_option linter.unusedVariables false
set_option linter.unusedSimpArgs false

abbrev pA : ByteArray := ⟨#[47, 97]⟩
abbrev pAB : ByteArray := ⟨#[47, 97, 47, 98]⟩
abbrev pAb : ByteArray := ⟨#[47, 97, 98]⟩
abbrev pXY : ByteArray := ⟨#[47, 120, 47, 121]⟩
abbrev nilH : Value := .slice none 0 0
theorem ex1 : onF pA false pA = true := by decide +kernel
theorem ex2 : onF pA false pAB = true := by decide +kernel
theorem ex3 : onF pA false pAb = false := by decide +kernel
theorem ex4 : onF pA true pA = true := by decide +kernel
theorem ex5 : onF pA true pAB = false := by decide +kernel
theorem ex6 : onF sl false pXY = true := by decide +kernel
theorem ex7 : cmp3 (bI true) (partsN pA) (0 : Nat) (bI false) (partsN pAB) (0 : Nat) = -1 := by decide +kernel
theorem ex8 : cmp3 (bI false) (partsN pA) (0 : Nat) (bI false) (partsN pAB) (0 : Nat) = 1 := by decide +kernel
set_option maxRecDepth 20000 in
set_option maxHeartbeats 4000000 in
theorem lives_any (w : World) : Calls Try.prog 15 #[] w fun e w' => e = .returned (.bool true) ∧ Bl w w' := by
  obtain ⟨w1, h1⟩ : ∃ X, w.alloc (.cells #[.string ⟨#[47, 97]⟩, .bool false, .slice none 0 0] 29) = X := ⟨_, rfl⟩
  obtain ⟨w2, h2⟩ : ∃ X, w1.alloc (.cells #[.string ⟨#[47, 97]⟩, .bool true, .slice none 0 0] 29) = X := ⟨_, rfl⟩
  obtain ⟨w3, h3⟩ : ∃ X, w2.alloc (.cells #[.string ⟨#[47, 97, 47, 98]⟩, .bool false, .slice none 0 0] 29) = X := ⟨_, rfl⟩
  obtain ⟨w4, h4⟩ : ∃ X, w3.alloc (.cells #[.string ⟨#[47]⟩, .bool false, .slice none 0 0] 29) = X := ⟨_, rfl⟩
  obtain ⟨r1, e1⟩ : ∃ X, w.heap.size = X := ⟨_, rfl⟩
  obtain ⟨r2, e2⟩ : ∃ X, w1.heap.size = X := ⟨_, rfl⟩
  obtain ⟨r3, e3⟩ : ∃ X, w2.heap.size = X := ⟨_, rfl⟩
  obtain ⟨r4, e4⟩ : ∃ X, w3.heap.size = X := ⟨_, rfl⟩
  have q1 : Bl w w1 := by rw [← h1]; exact (Bl.rfl' w).al _
  have q2 : Bl w1 w2 := by rw [← h2]; exact (Bl.rfl' w1).al _
  have q3 : Bl w2 w3 := by rw [← h3]; exact (Bl.rfl' w2).al _
  have q4 : Bl w3 w4 := by rw [← h4]; exact (Bl.rfl' w3).al _
  have g1 : w1.heap[r1]? = some (oM pA false nilH) := by rw [← h1, ← e1]; exact heap_alloc_new w _
  have g2 : w2.heap[r2]? = some (oM pA true nilH) := by rw [← h2, ← e2]; exact heap_alloc_new w1 _
  have g3 : w3.heap[r3]? = some (oM pAB false nilH) := by rw [← h3, ← e3]; exact heap_alloc_new w2 _
  have g4 : w4.heap[r4]? = some (oM sl false nilH) := by rw [← h4, ← e4]; exact heap_alloc_new w3 _
  replace g1 := blk_bl g1 ((q2.tr q3).tr q4)
  replace g2 := blk_bl g2 (q3.tr q4)
  replace g3 := blk_bl g3 q4
  have hb0 := ((q1.tr q2).tr q3).tr q4
  have KX := Lib.hid (fun w' (hb : Bl w4 w') => (⟨cell_at (blk_bl g1 hb) 0, cell_at (blk_bl g1 hb) 1, cell_at (blk_bl g1 hb) 2, cell_at (blk_bl g2 hb) 0, cell_at (blk_bl g2 hb) 1, cell_at (blk_bl g2 hb) 2, cell_at (blk_bl g3 hb) 0, cell_at (blk_bl g3 hb) 1, cell_at (blk_bl g3 hb) 2, cell_at (blk_bl g4 hb) 0, cell_at (blk_bl g4 hb) 1, cell_at (blk_bl g4 hb) 2⟩ :
    w'.cell? ⟨r1, 0, none⟩ = some (S pA) ∧ w'.cell? ⟨r1, 1, none⟩ = some (.bool false) ∧ w'.cell? ⟨r1, 2, none⟩ = some nilH ∧ w'.cell? ⟨r2, 0, none⟩ = some (S pA) ∧ w'.cell? ⟨r2, 1, none⟩ = some (.bool true) ∧ w'.cell? ⟨r2, 2, none⟩ = some nilH ∧ w'.cell? ⟨r3, 0, none⟩ = some (S pAB) ∧ w'.cell? ⟨r3, 1, none⟩ = some (.bool false) ∧ w'.cell? ⟨r3, 2, none⟩ = some nilH ∧ w'.cell? ⟨r4, 0, none⟩ = some (S sl) ∧ w'.cell? ⟨r4, 1, none⟩ = some (.bool false) ∧ w'.cell? ⟨r4, 2, none⟩ = some nilH))
  have hq := Bl.rfl' w4
  clear g1 g2 g3 g4 q1 q2 q3 q4
  have s1 : w1.heap.size = w.heap.size + 1 := by rw [← h1]; simp
  have s2 : w2.heap.size = w.heap.size + 1 + 1 := by rw [← h2, ← s1]; simp
  have s3 : w3.heap.size = w.heap.size + 1 + 1 + 1 := by rw [← h3, ← s2]; simp
  rw [s1] at e2
  rw [s2] at e3
  rw [s3] at e4
  subst e1 e2 e3 e4
  clear s1 s2 s3
  replace hb0 := Lib.hid hb0
  replace h1 := Lib.hid h1
  replace h2 := Lib.hid h2
  replace h3 := Lib.hid h3
  replace h4 := Lib.hid h4
  go_enter Try.func15, Try.ntmps15
  go_upto_region 5 with fail
  rw [h1.out, h2.out, h3.out, h4.out]
  have C := on_any pA false nilH pA w4 (by decide) (by decide)
  rw [ex1] at C
  replace C := Lib.hid C
  have ⟨a0, a1, a2, b0, b1, b2, c0, c1, c2, d0, d1, d2⟩ := KX.out _ hq
  replace hq := Lib.hid hq
  go_wp2_with fail
  with_reducible refine (C.out).mono ?_
  rintro e x1 ⟨rfl, hn⟩
  replace hq := hq.out.tr hn
  clear hn C a0 a1 a2 b0 b1 b2 c0 c1 c2 d0 d1 d2
  clear h1 h2 h3 h4
  have C := on_any pA false nilH pAB x1 (by decide) (by decide)
  rw [ex2] at C
  replace C := Lib.hid C
  have ⟨a0, a1, a2, b0, b1, b2, c0, c1, c2, d0, d1, d2⟩ := KX.out _ hq
  replace hq := Lib.hid hq
  go_wp2_with fail
  with_reducible refine (C.out).mono ?_
  rintro e x2 ⟨rfl, hn⟩
  replace hq := hq.out.tr hn
  clear hn C a0 a1 a2 b0 b1 b2 c0 c1 c2 d0 d1 d2
  have C := on_any pA false nilH pAb x2 (by decide) (by decide)
  rw [ex3] at C
  replace C := Lib.hid C
  have ⟨a0, a1, a2, b0, b1, b2, c0, c1, c2, d0, d1, d2⟩ := KX.out _ hq
  replace hq := Lib.hid hq
  go_wp2_with fail
  with_reducible refine (C.out).mono ?_
  rintro e x3 ⟨rfl, hn⟩
  replace hq := hq.out.tr hn
  clear hn C a0 a1 a2 b0 b1 b2 c0 c1 c2 d0 d1 d2
  have C := on_any pA true nilH pA x3 (by decide) (by decide)
  rw [ex4] at C
  replace C := Lib.hid C
  have ⟨a0, a1, a2, b0, b1, b2, c0, c1, c2, d0, d1, d2⟩ := KX.out _ hq
  replace hq := Lib.hid hq
  go_wp2_with fail
  with_reducible refine (C.out).mono ?_
  rintro e x4 ⟨rfl, hn⟩
  replace hq := hq.out.tr hn
  clear hn C a0 a1 a2 b0 b1 b2 c0 c1 c2 d0 d1 d2
  have C := on_any pA true nilH pAB x4 (by decide) (by decide)
  rw [ex5] at C
  replace C := Lib.hid C
  have ⟨a0, a1, a2, b0, b1, b2, c0, c1, c2, d0, d1, d2⟩ := KX.out _ hq
  replace hq := Lib.hid hq
  go_wp2_with fail
  with_reducible refine (C.out).mono ?_
  rintro e x5 ⟨rfl, hn⟩
  replace hq := hq.out.tr hn
  clear hn C a0 a1 a2 b0 b1 b2 c0 c1 c2 d0 d1 d2
  have C := on_any sl false nilH pXY x5 (by decide) (by decide)
  rw [ex6] at C
  replace C := Lib.hid C
  have ⟨a0, a1, a2, b0, b1, b2, c0, c1, c2, d0, d1, d2⟩ := KX.out _ hq
  replace hq := Lib.hid hq
  go_wp2_with fail
  with_reducible refine (C.out).mono ?_
  rintro e x6 ⟨rfl, hn⟩
  replace hq := hq.out.tr hn
  clear hn C a0 a1 a2 b0 b1 b2 c0 c1 c2 d0 d1 d2
  have C := cmp_any pA true none 0 0 pAB false none 0 0 x6 (by decide) (by decide) (by decide) (by decide)
  rw [ex7] at C
  replace C := Lib.hid C
  have ⟨a0, a1, a2, b0, b1, b2, c0, c1, c2, d0, d1, d2⟩ := KX.out _ hq
  replace hq := Lib.hid hq
  go_wp2_with fail
  with_reducible refine (C.out).mono ?_
  rintro e x7 ⟨rfl, hn⟩
  replace hq := hq.out.tr hn
  clear hn C a0 a1 a2 b0 b1 b2 c0 c1 c2 d0 d1 d2
  have C := cmp_any pA false none 0 0 pAB false none 0 0 x7 (by decide) (by decide) (by decide) (by decide)
  rw [ex8] at C
  replace C := Lib.hid C
  have ⟨a0, a1, a2, b0, b1, b2, c0, c1, c2, d0, d1, d2⟩ := KX.out _ hq
  replace hq := Lib.hid hq
  go_wp2_with fail
  with_reducible refine (C.out).mono ?_
  rintro e x8 ⟨rfl, hn⟩
  replace hq := hq.out.tr hn
  clear hn C a0 a1 a2 b0 b1 b2 c0 c1 c2 d0 d1 d2
  have hz := hb0.out.tr hq
  replace hz := Lib.hid hz
  go_wp2_with fail
  go_ret
  exact ⟨rfl, hz.out⟩

def pcT (j : Nat) : ByteArray := [(⟨#[97]⟩ : ByteArray), ⟨#[98]⟩, ⟨#[99]⟩, ⟨#[97, 98]⟩].getD j ⟨#[]⟩
abbrev oP : Obj := .cells #[S ⟨#[97]⟩, S ⟨#[98]⟩, S ⟨#[99]⟩, S ⟨#[97, 98]⟩] 9
theorem cellP {v : World} {b : Nat} (hb : v.heap[b]? = some oP) (j : Nat) (hj : j < 4) : v.cell? ⟨b, j, none⟩ = some (S (pcT j)) := by
  rw [cell_at hb j]
  rcases j with _ | _ | _ | _ | j
  all_goals first | rfl | omega
theorem pcT_size (j : Nat) (hj : j < 4) : (pcT j).size ≤ 2 := by
  rcases j with _ | _ | _ | _ | j
  all_goals first | decide | omega
def pthL : Nat → Nat → ByteArray → ByteArray
  | 0, _, s => s
  | i + 1, k, s => pthL i (k / 4) ((s ++ sl) ++ pcT (k / 4 % 4))
def pathN (k : Nat) : ByteArray := if pthL (k % 4) k ⟨#[]⟩ = ⟨#[]⟩ then sl else pthL (k % 4) k ⟨#[]⟩
def pathO (n : Int) : ByteArray := pathN (around n 1000000).toNat
theorem eq_nil (s : ByteArray) : (s.toList == []) = decide (s = ⟨#[]⟩) := by
  have h := txt_eq s ⟨#[]⟩
  rw [show (ByteArray.toList ⟨#[]⟩) = [] by rw [ByteArray.toList_eq]] at h
  exact h
set_option maxRecDepth 20000 in
set_option maxHeartbeats 4000000 in
theorem pathof_any (n : Int) (w : World) (h1 : -9223372036854775808 ≤ n) (h2 : n ≤ 9223372036854775807) :
    Calls Try.prog 19 #[I n] w fun e w' => e = .returned (S (pathO n)) ∧ Bl w w' := by
  have A1 := around_any n 1000000 w h1 h2 (by omega) (by omega)
  have f0 := around_lo n 1000000 (by omega)
  have f1 := around_hi n 1000000 (by omega)
  have hpo : pathO n = pathN (around n 1000000).toNat := rfl
  obtain ⟨k0, hk0⟩ : ∃ k : Nat, around n 1000000 = k := ⟨(around n 1000000).toNat, by omega⟩
  rw [hk0] at A1 f1 hpo
  rw [hpo, Int.toNat_natCast]
  have hpn : pathN k0 = if pthL (k0 % 4) k0 ⟨#[]⟩ = ⟨#[]⟩ then sl else pthL (k0 % 4) k0 ⟨#[]⟩ := rfl
  rw [hpn]
  obtain ⟨i0, hi0⟩ : ∃ i, k0 % 4 = i := ⟨_, rfl⟩
  rw [hi0]
  obtain ⟨R, hR⟩ : ∃ X, pthL i0 k0 ⟨#[]⟩ = X := ⟨_, rfl⟩
  rw [hR]
  obtain ⟨RR, hRR⟩ : ∃ X, (if R = ⟨#[]⟩ then sl else R) = X := ⟨_, rfl⟩
  rw [hRR]
  have t0 : ((k0 : Nat) : Int).tmod 4 = (i0 : Int) := by rw [Int.tmod_eq_emod_of_nonneg (by omega)]; omega
  have t1 : ((k0 : Nat) : Int) % 4 = (i0 : Int) := by omega
  have hi4 : i0 ≤ 3 := by omega
  clear hpo hpn hk0 f0 hi0
  replace A1 := Lib.hid A1
  replace hR := Lib.hid hR
  replace hRR := Lib.hid hRR
  go_enter Try.func19, Try.ntmps19
  go_wp2_with fail
  with_reducible refine (A1.out).mono ?_
  rintro e w' ⟨rfl, rfl⟩
  go_wp2_with fail
  go_loopw [3, 4, 5] (fun kv sv iv wr => ∃ (x : Int) (i : Nat) (s : ByteArray), kv = I x ∧ sv = S s ∧ iv = I i ∧ i ≤ 3 ∧ 0 ≤ x ∧ x ≤ 1000000 ∧ s.size + 3 * i ≤ 9 ∧ pthL i x.toNat s = R ∧ Bl w wr) (fun _ _ iv _ => (intOf iv).toNat)
  case atStart => exact ⟨k0, i0, ⟨#[]⟩, rfl, rfl, rfl, hi4, by omega, by omega, by show 0 + _ ≤ _; omega, hR.out, Bl.rfl' _⟩
  case round =>
    obtain ⟨x, i, s, rfl, rfl, rfl, hi, hx0, hx1, hsz, hp, hbr⟩ := hrel
    rcases i with _ | i
    · have he := eq_nil s
      have hsr : s = R := hp
      subst hsr
      rw [show ((0 : Nat) : Int) = 0 from rfl]
      by_cases hs0 : s = ⟨#[]⟩
      · rw [decide_eq_true hs0] at he
        have hy := hRR.out
        rw [if_pos hs0] at hy
        clear hs0 hp hR hRR
        replace hbr := Lib.hid hbr
        replace hy := Lib.hid hy
        go_wp2_with fail
        go_ret
        exact ⟨by rw [← hy.out]; rfl, hbr.out⟩
      · rw [decide_eq_false hs0] at he
        have hy := hRR.out
        rw [if_neg hs0] at hy
        clear hs0 hp hR hRR
        replace hbr := Lib.hid hbr
        replace hy := Lib.hid hy
        go_wp2_with fail
        go_ret
        exact ⟨by rw [← hy.out]; rfl, hbr.out⟩
    · have hst : pthL i (x.toNat / 4) ((s ++ sl) ++ pcT (x.toNat / 4 % 4)) = R := hp
      have t2 : x.tdiv 4 = x / 4 := Int.tdiv_eq_ediv_of_nonneg hx0
      rw [show x.toNat / 4 = (x / 4).toNat by omega, show (x / 4).toNat % 4 = (x / 4 % 4).toNat by omega] at hst
      have hy0 : 0 ≤ x / 4 := by omega
      have hy1 : x / 4 ≤ 1000000 := by omega
      obtain ⟨y, hy⟩ : ∃ y, x / 4 = y := ⟨_, rfl⟩
      rw [hy] at hst t2 hy0 hy1
      have t3 : y.tmod 4 = y % 4 := Int.tmod_eq_emod_of_nonneg hy0
      have hj4 : (y % 4).toNat < 4 := by omega
      have hsz2 := pcT_size _ hj4
      have hss : (s ++ sl).size = s.size + 1 := by rw [ByteArray.size_append]; rfl
      have ad1 := fun w => run_string_add_sum (P := Try.prog) w s sl (by show s.size + 1 ≤ _; omega)
      have ad2 := fun w => run_string_add_sum (P := Try.prog) w (s ++ sl) (pcT (y % 4).toNat) (by omega)
      have hs2 : ((s ++ sl) ++ pcT (y % 4).toNat).size ≤ s.size + 3 := by rw [ByteArray.size_append]; omega
      have hP := heap_alloc_new wr oP
      have hb2 := hbr.al oP
      have cj := cellP hP _ hj4
      obtain ⟨pc, hpc⟩ : ∃ z, pcT (y % 4).toNat = z := ⟨_, rfl⟩
      rw [hpc] at hst hs2 cj
      simp only [hpc] at ad2
      obtain ⟨s1, hs1⟩ : ∃ X, s ++ sl = X := ⟨_, rfl⟩
      rw [hs1] at hs2 hst
      simp only [hs1] at ad1 ad2
      obtain ⟨s2, hs22⟩ : ∃ X, s1 ++ pc = X := ⟨_, rfl⟩
      rw [hs22] at hs2 hst
      simp only [hs22] at ad2
      have wi : IntKind.i64.wrap (((i + 1 : Nat) : Int) - 1) = (i : Int) := by rw [IntKind.wrap_i64]; omega
      have d0 : decide (((i + 1 : Nat) : Int) > 0) = true := decide_eq_true (by omega)
      have hlt : i < i + 1 := by omega
      have hi2 : i ≤ 3 := by omega
      have hs4 : s2.size + 3 * i ≤ 9 := by omega
      obtain ⟨i1, hi1⟩ : ∃ z : Nat, i + 1 = z := ⟨_, rfl⟩
      rw [hi1] at wi d0 hlt ⊢
      have d2 : 0 < i1 := by omega
      have d1 : decide ((0 : Int) < (i1 : Int)) = true := d0
      clear hp hR hRR hP hs1 hs22 hy hpc hi hx0 hx1 hsz hi1 hj4 hsz2 hss hs2 t0 t1 hi4 f1 h1 h2 A1
      replace hbr := Lib.hid hbr
      replace hb2 := Lib.hid hb2
      replace hst := Lib.hid hst
      replace hi2 := Lib.hid hi2
      replace hs4 := Lib.hid hs4
      replace hlt := Lib.hid hlt
      go_wp2_with fail
      go_roundw
      case rel => exact ⟨y, i, s2, rfl, rfl, by first | rfl | go_num, hi2.out, hy0, hy1, hs4.out, hst.out, hb2.out⟩
      case measure => (have := hlt.out); simp [intOf] <;> omega
end Go.Proofs.Ytpdcadlgdpkkoaa.mat
