/-
  LinkLoses is true for every input: of so many messages that one Lose sees just each N-th is lost, of one Double each N-th comes twice. No condition.
-/
import Derived.Test.YtndipeipcodidaaLinF
namespace Go.Proofs.Ytndipeipcodidaa.linkLoses
open Go.ChangeShapes Go.WideShapes Go.ChangeAt Go.RowKit
open Go.Proofs.Ytndipeipcodidaa.link
set_option linter.unusedVariables false
set_option linter.unusedSimpArgs false

theorem len_div (i k : Int) (h0 : 1 ≤ k) (h1 : k ≤ 9) (h2 : 0 ≤ i) : (i + 1) / k = i / k + (if (i + 1) % k = 0 then 1 else 0) := by
  obtain h | h | h | h | h | h | h | h | h : k = 1 ∨ k = 2 ∨ k = 3 ∨ k = 4 ∨ k = 5 ∨ k = 6 ∨ k = 7 ∨ k = 8 ∨ k = 9 := by omega
  all_goals subst h; split <;> omega

/-- What one fault makes of the i-th message. -/
theorem one (kk k i v : Int) (cnt : List Int) (hk : kk = 1 ∨ kk = 3) (k0 : 1 ≤ k) (i0 : 0 ≤ i) (i1 : i < 100) (hc : cnt.getD 0 0 = i) (hl : cnt.length = 40) :
    sent (sq [⟨kk, 0, 100, 3, -1, k⟩] i 3 v 1 cnt) = (if (i + 1) % k = 0 then (if kk = 1 then [] else [i + 1, i + 1 + 1]) else [i + 1]) ∧ (sq [⟨kk, 0, 100, 3, -1, k⟩] i 3 v 1 cnt).cnt.getD 0 0 = i + 1 := by
  have hsee : (way ⟨kk, 0, 100, 3, -1, k⟩ && seesB ⟨kk, 0, 100, 3, -1, k⟩ i 3 v) = true := by
    rcases hk with rfl | rfl <;> simp [way, seesB, thereB, touch, i0, i1]
  have hst : strk ⟨kk, 0, 100, 3, -1, k⟩ (i + 1) = decide ((i + 1) % k = 0) := by
    unfold strk
    simp only [show decide (0 < k) = true from decide_eq_true (by omega), Bool.true_and]
    by_cases h : (i + 1) % k = 0 <;> simp [h]
  unfold sq
  simp only [List.length_cons, List.length_nil, sendTo, Nat.zero_add]
  rw [show ([(⟨kk, 0, 100, 3, -1, k⟩ : Flt)].getD 0 fl0) = ⟨kk, 0, 100, 3, -1, k⟩ from rfl]
  unfold sendStep
  rw [if_pos hsee]
  simp only [hc, hst]
  refine ⟨?_, by rw [getD_set]; simp [hl]⟩
  unfold sent
  rcases hk with rfl | rfl <;> by_cases h : (i + 1) % k = 0 <;> simp [h]

def lenT (kk k i : Int) : Int := if (i + 1) % k = 0 then (if kk = 1 then 0 else 2) else 1
def come (kk k i : Int) : Int := if kk = 1 then i - i / k else i + i / k
theorem come_step (kk k i : Int) (hk : kk = 1 ∨ kk = 3) (h0 : 1 ≤ k) (h1 : k ≤ 9) (h2 : 0 ≤ i) : come kk k i + lenT kk k i = come kk k (i + 1) := by
  have := len_div i k h0 h1 h2
  unfold come lenT
  rcases hk with rfl | rfl
  · simp only [if_true]
    split at this <;> simp_all <;> omega
  · simp only [show ¬((3 : Int) = 1) by decide, if_false]
    split at this <;> simp_all <;> omega

set_option maxHeartbeats 4000000 in
theorem walk {w : World} (n : Int) (l0 : -9223372036854775808 ≤ n) (u0 : n ≤ 9223372036854775807) (m : Int) (l1 : -9223372036854775808 ≤ m) (u1 : m ≤ 9223372036854775807) (d : Bool) :
    Calls Try.prog 7 #[.int .i64 n, .int .i64 m, .bool d] w fun e w' => e = .returned (.bool true) ∧ Bl w w' := by
  have A0 := fun w => around_any n 9 w l0 u0 (by omega) (by omega)
  have a0 := around_lo n 9 (by omega); have a1 := around_hi n 9 (by omega)
  obtain ⟨k', hk'⟩ : ∃ z, around n 9 = z := ⟨_, rfl⟩
  rw [hk'] at A0 a0 a1
  have B0 := fun w => around_any m 51 w l1 u1 (by omega) (by omega)
  have b0 := around_lo m 51 (by omega); have b1 := around_hi m 51 (by omega)
  obtain ⟨c', hc'⟩ : ∃ z, around m 51 = z := ⟨_, rfl⟩
  rw [hc'] at B0 b0 b1
  obtain ⟨c, rfl⟩ : ∃ c : Nat, (c : Int) = c' := ⟨c'.toNat, by omega⟩
  obtain ⟨k, hk⟩ : ∃ z, 1 + k' = z := ⟨_, rfl⟩
  have k0 : 1 ≤ k := by omega
  have k1 : k ≤ 9 := by omega
  replace A0 := Lib.hid A0; replace B0 := Lib.hid B0
  clear hk' hc'
  replace hk := Lib.hid hk
  have LV := Lib.hid lives_any
  cases d
  · go_enter Try.func7, Try.ntmps7
    go_wp2_with fail
    refine (A0.out _).mono ?_
    rintro e w' ⟨rfl, rfl⟩
    go_wp2_with fail
    rw [hk.out]
    have hb1 := ((Bl.rfl' w).al (.cells #[I 1, I 0, I 100, I 3, I (-1), I k] 40)).al (.cells #[I 1, I 0, I 100, I 3, I (-1), I k] 40)
    have hFr : FRow ((w.alloc (.cells #[I 1, I 0, I 100, I 3, I (-1), I k] 40)).alloc (.cells #[I 1, I 0, I 100, I 3, I (-1), I k] 40)) (w.heap.size + 1) (some ⟨w.heap.size + 1, 0, none⟩) [⟨1, 0, 100, 3, -1, k⟩] := fun _ => ⟨rfl, _, _, by simpa using heap_alloc_new (w.alloc (.cells #[I 1, I 0, I 100, I 3, I (-1), I k] 40)) (.cells #[I 1, I 0, I 100, I 3, I (-1), I k] 40), fun j hj => by simp [flat]⟩
    refine (new_ls _ 1 (w.heap.size + 1) _ 1 [⟨1, 0, 100, 3, -1, k⟩] hFr (by simp) (by simp)).mono ?_
    rintro e w1 ⟨p, rfl, hp, hL, hb2⟩
    have hwp : w.heap.size ≤ p := by have := hb1.size; omega
    replace hb1 := Lib.hid (hb1.tr hb2); replace hL := Lib.hid hL
    clear hFr hb2 hp
    go_wp2_with fail
    refine (B0.out _).mono ?_
    rintro e w' ⟨rfl, rfl⟩
    have hFF : ∀ x ∈ [(⟨1, 0, 100, 3, -1, k⟩ : Flt)], okF x := by intro x hx; simp at hx; subst hx; exact ⟨by simp only; omega, by simp only; omega⟩
    replace hFF := Lib.hid hFF
    go_wp2_with fail
    go_loopw [11, 12] (fun co i wr => ∃ (j : Nat) (cnt : List Int), j ≤ c ∧ i = I j ∧ co = I (come 1 k j) ∧ okC j cnt ∧ cnt.getD 0 0 = j ∧ LS wr p 1 [⟨1, 0, 100, 3, -1, k⟩] cnt ∧ Bl w wr) (fun _ i _ => c - (intOf i).toNat)
    case atStart => exact ⟨0, _, by omega, rfl, by simp [come], okC0 0 (by decide), by simp, hL.out, hb1.out⟩
    case round =>
      obtain ⟨j, cnt, hjc, rfl, rfl, hok, h0, hLS, hbr⟩ := hrel
      clear hb1 hL
      have hstep := come_step 1 k j (by simp) k0 k1 (by omega)
      obtain ⟨x0, hx0⟩ : ∃ z, come 1 k j = z := ⟨_, rfl⟩
      simp only [hx0] at hstep ⊢
      have y0 : 0 ≤ (j : Int) / k := Int.ediv_nonneg (by omega) (by omega)
      have y1 : (j : Int) / k ≤ j := Int.ediv_le_self _ (by omega)
      obtain ⟨y, hy⟩ : ∃ z, (j : Int) / k = z := ⟨_, rfl⟩
      rw [hy] at y0 y1
      have hdiv : come 1 k j = (j : Int) - y := by unfold come; simp [hy]
      have x00 : 0 ≤ x0 := by rw [← hx0, hdiv]; omega
      have x01 : x0 ≤ 150 := by rw [← hx0, hdiv]; omega
      replace hx0 := Lib.hid hx0
      by_cases hlt : j < c
      · replace hok := Lib.hid hok; replace hLS := Lib.hid hLS; replace hbr := Lib.hid hbr; replace hstep := Lib.hid hstep
        clear hdiv hy y0 y1
        go_wp2_with fail
        have O := one 1 k j (101 + (j : Int) % 3) cnt (by simp) k0 (by omega) (by omega) h0 hok.out.1
        have M := send_ls wr p 1 [⟨1, 0, 100, 3, -1, k⟩] cnt j 3 (101 + (j : Int) % 3) j hLS.out (by simp) hFF.out hok.out (by omega) (by omega) (by omega) (by omega) (by omega)
        have K := sq_ok (A := [⟨1, 0, 100, 3, -1, k⟩]) (now := j) (u := 3) (v := 101 + (j : Int) % 3) (hop := 1) hok.out
        obtain ⟨s, hs⟩ : ∃ z, sq [⟨1, 0, 100, 3, -1, k⟩] j 3 (101 + (j : Int) % 3) 1 cnt = z := ⟨_, rfl⟩
        rw [hs] at O M K
        obtain ⟨O1, O2⟩ := O
        rw [O1] at M
        clear hs O1
        refine M.mono ?_
        rintro e w2 ⟨vr, rfl, ho, hL2, hg⟩
        replace hbr := Lib.hid (hbr.out.gp hg hwp); replace hL2 := Lib.hid hL2; replace K := Lib.hid K; replace O2 := Lib.hid O2
        clear hok hLS hg M h0
        by_cases hr : ((j : Int) + 1) % k = 0
        · rw [if_pos hr] at ho
          have hlen : lenT 1 k j = 0 := by unfold lenT; rw [if_pos hr]; simp
          replace hstep := Lib.hid (show x0 + _ = _ from hlen ▸ hstep.out)
          obtain ⟨a2, c2, rfl⟩ := ho.any
          clear ho
          try simp only [List.length_cons, List.length_nil, if_true, show ¬((3 : Int) = 1) by decide, if_false]
          go_wp2_with fail
          go_roundw
          case rel => exact ⟨j + 1, s.cnt, by omega, by go_num, by rw [show ((j + 1 : Nat) : Int) = (j : Int) + 1 by omega, ← hstep.out]; try rw [Int.add_zero], by have := K.out; rwa [show ((j + 1 : Nat) : Int) = (j : Int) + 1 by omega], by have := O2.out; rwa [show ((j + 1 : Nat) : Int) = (j : Int) + 1 by omega], hL2.out, hbr.out⟩
          case measure => simp [intOf]; omega
        · rw [if_neg hr] at ho
          have hlen : lenT 1 k j = 1 := by unfold lenT; rw [if_neg hr]
          replace hstep := Lib.hid (show x0 + _ = _ from hlen ▸ hstep.out)
          obtain ⟨a2, c2, rfl⟩ := ho.any
          clear ho
          try simp only [List.length_cons, List.length_nil]
          go_wp2_with fail
          go_roundw
          case rel => exact ⟨j + 1, s.cnt, by omega, by go_num, by rw [show ((j + 1 : Nat) : Int) = (j : Int) + 1 by omega, ← hstep.out]; try rw [Int.add_zero], by have := K.out; rwa [show ((j + 1 : Nat) : Int) = (j : Int) + 1 by omega], by have := O2.out; rwa [show ((j + 1 : Nat) : Int) = (j : Int) + 1 by omega], hL2.out, hbr.out⟩
          case measure => simp [intOf]; omega
      · obtain rfl : j = c := by omega
        replace hok := Lib.hid hok; replace hLS := Lib.hid hLS; replace hbr := Lib.hid hbr
        clear hstep x00 x01
        obtain rfl : (j : Int) - y = x0 := by rw [← hx0.out, hdiv]
        clear hx0
        go_wp2_with fail
        refine (LV.out _).mono ?_
        rintro e w2 ⟨rfl, hb2⟩
        go_wp2_with fail
        go_ret
        exact ⟨rfl, hbr.out.tr hb2⟩
  · go_enter Try.func7, Try.ntmps7
    go_wp2_with fail
    refine (A0.out _).mono ?_
    rintro e w' ⟨rfl, rfl⟩
    go_wp2_with fail
    rw [hk.out]
    have hb1 := ((Bl.rfl' w).al (.cells #[I 3, I 0, I 100, I 3, I (-1), I k] 40)).al (.cells #[I 3, I 0, I 100, I 3, I (-1), I k] 40)
    have hFr : FRow ((w.alloc (.cells #[I 3, I 0, I 100, I 3, I (-1), I k] 40)).alloc (.cells #[I 3, I 0, I 100, I 3, I (-1), I k] 40)) (w.heap.size + 1) (some ⟨w.heap.size + 1, 0, none⟩) [⟨3, 0, 100, 3, -1, k⟩] := fun _ => ⟨rfl, _, _, by simpa using heap_alloc_new (w.alloc (.cells #[I 3, I 0, I 100, I 3, I (-1), I k] 40)) (.cells #[I 3, I 0, I 100, I 3, I (-1), I k] 40), fun j hj => by simp [flat]⟩
    refine (new_ls _ 1 (w.heap.size + 1) _ 1 [⟨3, 0, 100, 3, -1, k⟩] hFr (by simp) (by simp)).mono ?_
    rintro e w1 ⟨p, rfl, hp, hL, hb2⟩
    have hwp : w.heap.size ≤ p := by have := hb1.size; omega
    replace hb1 := Lib.hid (hb1.tr hb2); replace hL := Lib.hid hL
    clear hFr hb2 hp
    go_wp2_with fail
    refine (B0.out _).mono ?_
    rintro e w' ⟨rfl, rfl⟩
    have hFF : ∀ x ∈ [(⟨3, 0, 100, 3, -1, k⟩ : Flt)], okF x := by intro x hx; simp at hx; subst hx; exact ⟨by simp only; omega, by simp only; omega⟩
    replace hFF := Lib.hid hFF
    go_wp2_with fail
    go_loopw [11, 12] (fun co i wr => ∃ (j : Nat) (cnt : List Int), j ≤ c ∧ i = I j ∧ co = I (come 3 k j) ∧ okC j cnt ∧ cnt.getD 0 0 = j ∧ LS wr p 1 [⟨3, 0, 100, 3, -1, k⟩] cnt ∧ Bl w wr) (fun _ i _ => c - (intOf i).toNat)
    case atStart => exact ⟨0, _, by omega, rfl, by simp [come], okC0 0 (by decide), by simp, hL.out, hb1.out⟩
    case round =>
      obtain ⟨j, cnt, hjc, rfl, rfl, hok, h0, hLS, hbr⟩ := hrel
      clear hb1 hL
      have hstep := come_step 3 k j (by simp) k0 k1 (by omega)
      obtain ⟨x0, hx0⟩ : ∃ z, come 3 k j = z := ⟨_, rfl⟩
      simp only [hx0] at hstep ⊢
      have y0 : 0 ≤ (j : Int) / k := Int.ediv_nonneg (by omega) (by omega)
      have y1 : (j : Int) / k ≤ j := Int.ediv_le_self _ (by omega)
      obtain ⟨y, hy⟩ : ∃ z, (j : Int) / k = z := ⟨_, rfl⟩
      rw [hy] at y0 y1
      have hdiv : come 3 k j = (j : Int) + y := by unfold come; simp [hy]
      have x00 : 0 ≤ x0 := by rw [← hx0, hdiv]; omega
      have x01 : x0 ≤ 150 := by rw [← hx0, hdiv]; omega
      replace hx0 := Lib.hid hx0
      by_cases hlt : j < c
      · replace hok := Lib.hid hok; replace hLS := Lib.hid hLS; replace hbr := Lib.hid hbr; replace hstep := Lib.hid hstep
        clear hdiv hy y0 y1
        go_wp2_with fail
        have O := one 3 k j (101 + (j : Int) % 3) cnt (by simp) k0 (by omega) (by omega) h0 hok.out.1
        have M := send_ls wr p 1 [⟨3, 0, 100, 3, -1, k⟩] cnt j 3 (101 + (j : Int) % 3) j hLS.out (by simp) hFF.out hok.out (by omega) (by omega) (by omega) (by omega) (by omega)
        have K := sq_ok (A := [⟨3, 0, 100, 3, -1, k⟩]) (now := j) (u := 3) (v := 101 + (j : Int) % 3) (hop := 1) hok.out
        obtain ⟨s, hs⟩ : ∃ z, sq [⟨3, 0, 100, 3, -1, k⟩] j 3 (101 + (j : Int) % 3) 1 cnt = z := ⟨_, rfl⟩
        rw [hs] at O M K
        obtain ⟨O1, O2⟩ := O
        rw [O1] at M
        clear hs O1
        refine M.mono ?_
        rintro e w2 ⟨vr, rfl, ho, hL2, hg⟩
        replace hbr := Lib.hid (hbr.out.gp hg hwp); replace hL2 := Lib.hid hL2; replace K := Lib.hid K; replace O2 := Lib.hid O2
        clear hok hLS hg M h0
        by_cases hr : ((j : Int) + 1) % k = 0
        · rw [if_pos hr] at ho
          have hlen : lenT 3 k j = 2 := by unfold lenT; rw [if_pos hr]; simp
          replace hstep := Lib.hid (show x0 + _ = _ from hlen ▸ hstep.out)
          obtain ⟨a2, c2, rfl⟩ := ho.any
          clear ho
          try simp only [List.length_cons, List.length_nil, if_true, show ¬((3 : Int) = 1) by decide, if_false]
          go_wp2_with fail
          go_roundw
          case rel => exact ⟨j + 1, s.cnt, by omega, by go_num, by rw [show ((j + 1 : Nat) : Int) = (j : Int) + 1 by omega, ← hstep.out]; try rw [Int.add_zero], by have := K.out; rwa [show ((j + 1 : Nat) : Int) = (j : Int) + 1 by omega], by have := O2.out; rwa [show ((j + 1 : Nat) : Int) = (j : Int) + 1 by omega], hL2.out, hbr.out⟩
          case measure => simp [intOf]; omega
        · rw [if_neg hr] at ho
          have hlen : lenT 3 k j = 1 := by unfold lenT; rw [if_neg hr]
          replace hstep := Lib.hid (show x0 + _ = _ from hlen ▸ hstep.out)
          obtain ⟨a2, c2, rfl⟩ := ho.any
          clear ho
          try simp only [List.length_cons, List.length_nil]
          go_wp2_with fail
          go_roundw
          case rel => exact ⟨j + 1, s.cnt, by omega, by go_num, by rw [show ((j + 1 : Nat) : Int) = (j : Int) + 1 by omega, ← hstep.out]; try rw [Int.add_zero], by have := K.out; rwa [show ((j + 1 : Nat) : Int) = (j : Int) + 1 by omega], by have := O2.out; rwa [show ((j + 1 : Nat) : Int) = (j : Int) + 1 by omega], hL2.out, hbr.out⟩
          case measure => simp [intOf]; omega
      · obtain rfl : j = c := by omega
        replace hok := Lib.hid hok; replace hLS := Lib.hid hLS; replace hbr := Lib.hid hbr
        clear hstep x00 x01
        obtain rfl : (j : Int) + y = x0 := by rw [← hx0.out, hdiv]
        clear hx0
        go_wp2_with fail
        refine (LV.out _).mono ?_
        rintro e w2 ⟨rfl, hb2⟩
        go_wp2_with fail
        go_ret
        exact ⟨rfl, hbr.out.tr hb2⟩
end Go.Proofs.Ytndipeipcodidaa.linkLoses
