/-
  Package match: the document's Cmp.
-/
import Derived.Test.YtpdcadlgdpkkoaaMaJ
namespace Go.Proofs.Ytpdcadlgdpkkoaa.mat
open Go.ChangeShapes Go.WideShapes Go.ChangeAt Go.RowKit
open Go.Proofs.Ytpdcadlgdpkkoaa.heads
set_option linter.unusedVariables false
set_option linter.unusedSimpArgs false

abbrev oI (a b c : Int) : Obj := .cells #[I a, I b, I c] 3
set_option maxRecDepth 20000 in
set_option maxHeartbeats 8000000 in
theorem rcmp_any (p : ByteArray) (x : Bool) (a : Option Addr) (n cap : Nat) (p' : ByteArray) (x' : Bool) (a' : Option Addr) (n' cap' : Nat) (w : World) (hn : n ≤ 1000000) (hp : p.size ≤ 1000000) (hn' : n' ≤ 1000000) (hp' : p'.size ≤ 1000000) (vp : pathF p = true) (vp' : pathF p' = true) :
    Calls Try.prog 18 #[mV p x (.slice a n cap), mV p' x' (.slice a' n' cap')] w fun e w' => e = .returned (I (cmp3 (bI x) (partsN p) n (bI x') (partsN p') n')) ∧ Bl w w' := by
  have P1 := Lib.hid (fun w => parts_any p w hp)
  have P2 := Lib.hid (fun w => parts_any p' w hp')
  obtain ⟨w1, h1⟩ : ∃ X, w.alloc (oM p x (.slice a n cap)) = X := ⟨_, rfl⟩
  obtain ⟨w2, h2⟩ : ∃ X, w1.alloc (oM p' x' (.slice a' n' cap')) = X := ⟨_, rfl⟩
  obtain ⟨r1, e1⟩ : ∃ r, w.heap.size = r := ⟨_, rfl⟩
  obtain ⟨r2, e2⟩ : ∃ r, w1.heap.size = r := ⟨_, rfl⟩
  have b1 : w1.heap[r1]? = some (oM p x (.slice a n cap)) := by rw [← h1, ← e1]; exact heap_alloc_new w _
  have b2 : w2.heap[r2]? = some (oM p' x' (.slice a' n' cap')) := by rw [← h2, ← e2]; exact heap_alloc_new w1 _
  have q1 : Bl w w1 := by rw [← h1]; exact (Bl.rfl' w).al _
  have q2 : Bl w1 w2 := by rw [← h2]; exact (Bl.rfl' w1).al _
  replace b1 := blk_bl b1 q2
  replace q1 := q1.tr q2
  have x1 := cell_at b1 0
  simp only [List.getElem?_toArray, List.getElem?_cons_succ, List.getElem?_cons_zero] at x1
  obtain ⟨R, hR⟩ : ∃ X, cmp3 (bI x) (partsN p) n (bI x') (partsN p') n' = X := ⟨_, rfl⟩
  rw [hR]
  clear q2
  replace b1 := Lib.hid b1
  replace b2 := Lib.hid b2
  replace q1 := Lib.hid q1
  replace hR := Lib.hid hR
  go_enter Try.func18, Try.ntmps18
  go_wp2_with fail
  clear h1 h2 e1 e2
  with_reducible refine (P1.out _).mono ?_
  rintro e w3 ⟨v3, s3, rfl, hp3, hq3⟩
  obtain ⟨hs3, pa, pn, pc, rfl, hpl, hpn⟩ := hp3
  rw [vp] at hs3
  subst hs3
  obtain rfl := hpn rfl
  have b23 := blk_bl b2.out hq3
  have b13 := blk_bl b1.out hq3
  have q3 := q1.out.tr hq3
  have x2 := cell_at b23 0
  simp only [List.getElem?_toArray, List.getElem?_cons_succ, List.getElem?_cons_zero] at x2
  clear hq3 b1 b2 q1 hpn
  replace b13 := Lib.hid b13
  replace b23 := Lib.hid b23
  replace q3 := Lib.hid q3
  go_wp2_with fail
  with_reducible refine (P2.out _).mono ?_
  rintro e w4 ⟨v4, s4, rfl, hp4, hq4⟩
  obtain ⟨hs4, pa', pn', pc', rfl, hpl', hpn'⟩ := hp4
  rw [vp'] at hs4
  subst hs4
  obtain rfl := hpn' rfl
  have b24 := blk_bl b23.out hq4
  have b14 := blk_bl b13.out hq4
  have q4 := q3.out.tr hq4
  clear hq4 b13 b23 q3 hpn' x1 x2
  have m1 := cell_at b14 2
  have m2 := cell_at b14 1
  have m3 := cell_at b24 2
  have m4 := cell_at b24 1
  simp only [List.getElem?_toArray, List.getElem?_cons_succ, List.getElem?_cons_zero] at m1 m2 m3 m4
  obtain ⟨z1, h5⟩ : ∃ X, w4.alloc (.cells #[.int .i64 0, .int .i64 (partsN p), .int .i64 n] 3) = X := ⟨_, rfl⟩
  obtain ⟨z2, h6⟩ : ∃ X, z1.alloc (.cells #[.int .i64 0, .int .i64 (partsN p'), .int .i64 n'] 3) = X := ⟨_, rfl⟩
  obtain ⟨px, e5⟩ : ∃ r, w4.heap.size = r := ⟨_, rfl⟩
  obtain ⟨py, e6⟩ : ∃ r, z1.heap.size = r := ⟨_, rfl⟩
  have g1 : z1.heap[px]? = some (oI 0 (partsN p) n) := by rw [← h5, ← e5]; exact heap_alloc_new w4 _
  have g2 : z2.heap[py]? = some (oI 0 (partsN p') n') := by rw [← h6, ← e6]; exact heap_alloc_new z1 _
  have k1 : Bl w4 z1 := by rw [← h5]; exact (Bl.rfl' w4).al _
  have k2 : Bl z1 z2 := by rw [← h6]; exact (Bl.rfl' z1).al _
  have lxy : px < py := by rw [← e6]; exact lt_of_block g1
  have l1 : r1 < px := by rw [← e5]; exact lt_of_block b14
  have l2 : r2 < px := by rw [← e5]; exact lt_of_block b24
  have hge : w.heap.size ≤ px := by rw [← e5]; exact q4.size
  have n14 := cell_at (blk_bl b14 k1) 2
  have n24 := cell_at (blk_bl b24 k1) 2
  replace g1 := blk_bl g1 k2
  have d1 := blk_bl b14 (k1.tr k2)
  have d2 := blk_bl b24 (k1.tr k2)
  have hb2 := q4.tr (k1.tr k2)
  have c14 := cell_at d1 1
  have f1 := free_at g1
  have i1 := cell_at g1 0
  simp only [List.getElem?_toArray, List.getElem?_cons_succ, List.getElem?_cons_zero] at n14 n24 c14 i1
  obtain ⟨zx, hx5, s1, s2, s4, sb⟩ : ∃ z, (bif x then z2.setCell ⟨px, 0, none⟩ (I 1) else z2) = z ∧ z.heap[px]? = some (oI (bI x) (partsN p) n) ∧ z.heap[py]? = some (oI 0 (partsN p') n') ∧ z.heap[r2]? = some (oM p' x' (.slice a' n' cap')) ∧ Bl w z := by
    cases x with
    | false => exact ⟨_, rfl, g1, g2, d2, hb2⟩
    | true =>
      refine ⟨_, rfl, by have := set_at 0 (I 1) g1; simp only [List.setIfInBounds_toArray, List.set_cons_zero] at this; exact this, ?_, ?_, hb2.gp (gby_set z2 px 0 _) (by omega)⟩
      · exact ((gby_set z2 px 0 (I 1)).block _ (lt_of_block g2) (fun e => by cases e; omega)).trans g2
      · exact ((gby_set z2 px 0 (I 1)).block _ (lt_of_block d2) (fun e => by cases e; omega)).trans d2
  have c24 := cell_at s4 1
  have f2 := free_at s2
  have i2 := cell_at s2 0
  simp only [List.getElem?_toArray, List.getElem?_cons_succ, List.getElem?_cons_zero] at c24 i2
  obtain ⟨zy, hy5, u1, u2, ub⟩ : ∃ z, (bif x' then zx.setCell ⟨py, 0, none⟩ (I 1) else zx) = z ∧ z.heap[px]? = some (oI (bI x) (partsN p) n) ∧ z.heap[py]? = some (oI (bI x') (partsN p') n') ∧ Bl w z := by
    cases x' with
    | false => exact ⟨_, rfl, s1, s2, sb⟩
    | true =>
      refine ⟨_, rfl, ?_, by have := set_at 0 (I 1) s2; simp only [List.setIfInBounds_toArray, List.set_cons_zero] at this; exact this, sb.gp (gby_set zx py 0 _) (by omega)⟩
      · exact ((gby_set zx py 0 (I 1)).block _ (lt_of_block s1) (fun e => by cases e; omega)).trans s1
  clear b14 b24 q4 g1 g2 k1 k2 d1 d2 hb2 s1 s2 s4 sb l1 l2 lxy hge
  replace u1 := Lib.hid u1
  replace u2 := Lib.hid u2
  replace ub := Lib.hid ub
  go_upto_if 37 with fail
  go_cut [9] from 36 to 39 (fun v wx => v = .slice (some ⟨px, 0, none⟩) 3 3 ∧ wx = zx)
  case first =>
    cases x with
    | true =>
      simp only [cond_true] at hx5
      clear hy5
      go_wp2_with fail
      go_meet
      case rel => exact ⟨rfl, rfl⟩
    | false =>
      simp only [cond_false] at hx5
      clear hy5
      go_wp2_with fail
      go_meet
      case rel => exact ⟨rfl, hx5⟩
  case rest =>
    obtain ⟨rfl, rfl⟩ := hcut
    clear hx5 h5 h6 e5 e6 i1 f1 c14 n14 n24 m1 m2 m3 m4
    go_upto_if 41 with fail
    go_cut [10] from 40 to 43 (fun v wx => v = .slice (some ⟨py, 0, none⟩) 3 3 ∧ wx = zy)
    case first =>
      cases x' with
      | true =>
        simp only [cond_true] at hy5
        go_wp2_with fail
        go_meet
        case rel => exact ⟨rfl, rfl⟩
      | false =>
        simp only [cond_false] at hy5
        go_wp2_with fail
        go_meet
        case rel => exact ⟨rfl, hy5⟩
    case rest =>
      obtain ⟨rfl, rfl⟩ := hcut
      have RX := Lib.hid (fun w' (hb : Bl wc w') => (⟨cell_at (blk_bl u1.out hb) 0, cell_at (blk_bl u1.out hb) 1, cell_at (blk_bl u1.out hb) 2, cell_at (blk_bl u2.out hb) 0, cell_at (blk_bl u2.out hb) 1, cell_at (blk_bl u2.out hb) 2⟩ : w'.cell? ⟨px, 0, none⟩ = some (I (bI x)) ∧ w'.cell? ⟨px, 1, none⟩ = some (I (partsN p)) ∧ w'.cell? ⟨px, 2, none⟩ = some (I n) ∧ w'.cell? ⟨py, 0, none⟩ = some (I (bI x')) ∧ w'.cell? ⟨py, 1, none⟩ = some (I (partsN p')) ∧ w'.cell? ⟨py, 2, none⟩ = some (I n')))
      replace hR := hR.out
      obtain ⟨A, hA⟩ : ∃ z_, (bI x) = z_ := ⟨_, rfl⟩
      obtain ⟨B, hB⟩ : ∃ z_, ((partsN p : Int)) = z_ := ⟨_, rfl⟩
      obtain ⟨C, hC⟩ : ∃ z_, ((n : Int)) = z_ := ⟨_, rfl⟩
      obtain ⟨D, hD⟩ : ∃ z_, (bI x') = z_ := ⟨_, rfl⟩
      obtain ⟨E, hE⟩ : ∃ z_, ((partsN p' : Int)) = z_ := ⟨_, rfl⟩
      obtain ⟨F, hF⟩ : ∃ z_, ((n' : Int)) = z_ := ⟨_, rfl⟩
      rw [hA, hB, hC, hD, hE, hF] at hR
      simp only [hA, hB, hC, hD, hE, hF] at RX
      have c1 := fun h => cmp_1 A B C D E F h
      have c2 := fun h g => cmp_2 A B C D E F h g
      have c3 := fun h g i => cmp_3 A B C D E F h g i
      have c4 := cmp_4 A B C D E F
      simp only [hR] at c1 c2 c3 c4
      have hbc := ub.out
      clear hR hA hD hy5 u1 u2 ub c24 i2 f2 P1 P2 hpl hpl'
      replace c1 := Lib.hid c1
      replace c2 := Lib.hid c2
      replace c3 := Lib.hid c3
      replace c4 := Lib.hid c4
      replace hbc := Lib.hid hbc
      replace hB := Lib.hid hB
      replace hC := Lib.hid hC
      replace hE := Lib.hid hE
      replace hF := Lib.hid hF
      go_wp2_with fail
      go_loopw [11] (fun i wr => ∃ k : Nat, k ≤ 3 ∧ i = I k ∧ (1 ≤ k → A = D) ∧ (2 ≤ k → B = E) ∧ (3 ≤ k → C = F) ∧ Bl wc wr) (fun i _ => 3 - (intOf i).toNat)
      case atStart => exact ⟨0, by omega, rfl, fun h => by omega, fun h => by omega, fun h => by omega, Bl.rfl' _⟩
      case round =>
        obtain ⟨k, hk, rfl, g1, g2, g3, hbr⟩ := hrel
        obtain ⟨x0, x1, x2, y0, y1, y2⟩ := RX.out _ hbr
        replace hbr := Lib.hid hbr
        rcases (by omega : k = 0 ∨ k = 1 ∨ k = 2 ∨ k = 3) with rfl | rfl | rfl | rfl
        · rw [show ((0 : Nat) : Int) = 0 from rfl]
          clear g1 g2 g3
          by_cases hAD : A = D
          · have e2 : decide (A > D) = false := decide_eq_false (by omega)
            have e3 : decide (D < A) = false := e2
            have e4 : decide (A < D) = false := decide_eq_false (by omega)
            have e5 : decide (D > A) = false := e4
            replace hAD := Lib.hid hAD
            go_wp2_with fail
            go_quiet (fail)
            have hbq := hbr.out.drn nq
            replace hbq := Lib.hid hbq
            go_wp2_with fail
            go_quiet (fail)
            have hbq2 := hbq.out.drn nq
            replace hbq2 := Lib.hid hbq2
            go_wp2_with fail
            go_roundw
            case rel => exact ⟨1, by omega, by first | rfl | go_num, fun _ => hAD.out, fun h => by omega, fun h => by omega, hbr.out.drn _⟩
            case measure => simp [intOf] <;> omega
          · have hy := c1.out hAD
            by_cases hgt : A > D
            · rw [if_pos hgt] at hy
              have e2 : decide (A > D) = true := decide_eq_true hgt
              have e3 : decide (D < A) = true := e2
              clear hgt
              replace hy := Lib.hid hy
              go_wp2_with fail
              go_quiet (fail)
              have hbq := hbr.out.drn nq
              replace hbq := Lib.hid hbq
              go_wp2_with fail
              have hbz := hbc.out.tr hbq.out
              replace hbz := Lib.hid hbz
              go_ret
              exact ⟨by rw [hy.out]; rfl, hbz.out⟩
            · rw [if_neg hgt] at hy
              have e2 : decide (A > D) = false := decide_eq_false hgt
              have e3 : decide (D < A) = false := e2
              have e4 : decide (A < D) = true := decide_eq_true (by omega)
              have e5 : decide (D > A) = true := e4
              clear hgt
              replace hy := Lib.hid hy
              go_wp2_with fail
              go_quiet (fail)
              have hbq := hbr.out.drn nq
              replace hbq := Lib.hid hbq
              go_wp2_with fail
              go_quiet (fail)
              have hbz := hbc.out.tr (hbq.out.drn nq)
              replace hbz := Lib.hid hbz
              go_wp2_with fail
              go_ret
              exact ⟨by rw [hy.out]; rfl, hbz.out⟩
        · have hAD := g1 (by omega)
          rw [show ((1 : Nat) : Int) = 1 from rfl]
          clear g1 g2 g3
          by_cases hBE : B = E
          · have e2 : decide (B > E) = false := decide_eq_false (by omega)
            have e3 : decide (E < B) = false := e2
            have e4 : decide (B < E) = false := decide_eq_false (by omega)
            have e5 : decide (E > B) = false := e4
            replace hAD := Lib.hid hAD
            replace hBE := Lib.hid hBE
            go_wp2_with fail
            go_quiet (fail)
            have hbq := hbr.out.drn nq
            replace hbq := Lib.hid hbq
            go_wp2_with fail
            go_quiet (fail)
            have hbq2 := hbq.out.drn nq
            replace hbq2 := Lib.hid hbq2
            go_wp2_with fail
            go_roundw
            case rel => exact ⟨2, by omega, by first | rfl | go_num, fun _ => hAD.out, fun _ => hBE.out, fun h => by omega, hbr.out.drn _⟩
            case measure => simp [intOf] <;> omega
          · have hy := c2.out hAD hBE
            by_cases hgt : B > E
            · rw [if_pos hgt] at hy
              have e2 : decide (B > E) = true := decide_eq_true hgt
              have e3 : decide (E < B) = true := e2
              clear hgt
              replace hy := Lib.hid hy
              go_wp2_with fail
              go_quiet (fail)
              have hbq := hbr.out.drn nq
              replace hbq := Lib.hid hbq
              go_wp2_with fail
              have hbz := hbc.out.tr hbq.out
              replace hbz := Lib.hid hbz
              go_ret
              exact ⟨by rw [hy.out]; rfl, hbz.out⟩
            · rw [if_neg hgt] at hy
              have e2 : decide (B > E) = false := decide_eq_false hgt
              have e3 : decide (E < B) = false := e2
              have e4 : decide (B < E) = true := decide_eq_true (by omega)
              have e5 : decide (E > B) = true := e4
              clear hgt
              replace hy := Lib.hid hy
              go_wp2_with fail
              go_quiet (fail)
              have hbq := hbr.out.drn nq
              replace hbq := Lib.hid hbq
              go_wp2_with fail
              go_quiet (fail)
              have hbz := hbc.out.tr (hbq.out.drn nq)
              replace hbz := Lib.hid hbz
              go_wp2_with fail
              go_ret
              exact ⟨by rw [hy.out]; rfl, hbz.out⟩
        · have hAD := g1 (by omega)
          have hBE := g2 (by omega)
          rw [show ((2 : Nat) : Int) = 2 from rfl]
          clear g1 g2 g3
          by_cases hCF : C = F
          · have e2 : decide (C > F) = false := decide_eq_false (by omega)
            have e3 : decide (F < C) = false := e2
            have e4 : decide (C < F) = false := decide_eq_false (by omega)
            have e5 : decide (F > C) = false := e4
            replace hAD := Lib.hid hAD
            replace hBE := Lib.hid hBE
            replace hCF := Lib.hid hCF
            go_wp2_with fail
            go_quiet (fail)
            have hbq := hbr.out.drn nq
            replace hbq := Lib.hid hbq
            go_wp2_with fail
            go_quiet (fail)
            have hbq2 := hbq.out.drn nq
            replace hbq2 := Lib.hid hbq2
            go_wp2_with fail
            go_roundw
            case rel => exact ⟨3, by omega, by first | rfl | go_num, fun _ => hAD.out, fun _ => hBE.out, fun _ => hCF.out, hbr.out.drn _⟩
            case measure => simp [intOf] <;> omega
          · have hy := c3.out hAD hBE hCF
            by_cases hgt : C > F
            · rw [if_pos hgt] at hy
              have e2 : decide (C > F) = true := decide_eq_true hgt
              have e3 : decide (F < C) = true := e2
              clear hgt
              replace hy := Lib.hid hy
              go_wp2_with fail
              go_quiet (fail)
              have hbq := hbr.out.drn nq
              replace hbq := Lib.hid hbq
              go_wp2_with fail
              have hbz := hbc.out.tr hbq.out
              replace hbz := Lib.hid hbz
              go_ret
              exact ⟨by rw [hy.out]; rfl, hbz.out⟩
            · rw [if_neg hgt] at hy
              have e2 : decide (C > F) = false := decide_eq_false hgt
              have e3 : decide (F < C) = false := e2
              have e4 : decide (C < F) = true := decide_eq_true (by omega)
              have e5 : decide (F > C) = true := e4
              clear hgt
              replace hy := Lib.hid hy
              go_wp2_with fail
              go_quiet (fail)
              have hbq := hbr.out.drn nq
              replace hbq := Lib.hid hbq
              go_wp2_with fail
              go_quiet (fail)
              have hbz := hbc.out.tr (hbq.out.drn nq)
              replace hbz := Lib.hid hbz
              go_wp2_with fail
              go_ret
              exact ⟨by rw [hy.out]; rfl, hbz.out⟩
        · have hy := c4.out (g1 (by omega)) (g2 (by omega)) (g3 (by omega))
          rw [show ((3 : Nat) : Int) = 3 from rfl]
          have hbz := hbc.out.tr hbr.out
          clear g1 g2 g3
          replace hy := Lib.hid hy
          replace hbz := Lib.hid hbz
          go_wp2_with fail
          go_ret
          exact ⟨by rw [hy.out]; rfl, hbz.out⟩
end Go.Proofs.Ytpdcadlgdpkkoaa.mat
