/-
  Package lease: the rates that are made; Check; the document's example.
-/
import Derived.Test.YtifmoekgnbgnmaaLeaB
namespace Go.Proofs.Ytifmoekgnbgnmaa.lease
open Go.ChangeShapes Go.WideShapes Go.ChangeAt Go.RowKit
set_option linter.unusedVariables false
set_option linter.unusedSimpArgs false

def RateI (w : World) : Ending → World → Prop := fun e w' => ∃ L W S, e = .returned (rate L W S) ∧ okR L W S ∧ L ≤ 12 ∧ W ≤ 9 ∧ Bl w w'
theorem rate_any (n : Int) (w : World) (n0 : -9223372036854775808 ≤ n) (n1 : n ≤ 9223372036854775807) :
    Calls Try.prog 10 #[.int .i64 n] w (RateI w) := by
  have A0 := fun w => around_any n 100000 w n0 n1 (by omega) (by omega)
  have k0 := around_lo n 100000 (by omega); have k1 := around_hi n 100000 (by omega)
  obtain ⟨k, hk⟩ : ∃ t, around n 100000 = t := ⟨_, rfl⟩
  rw [hk] at A0 k0 k1
  replace A0 := Lib.hid A0
  clear hk
  have fin : ∀ (L W S : Int) (w1 : World), okR L W S → L ≤ 12 → W ≤ 9 → Bl w w1 → RateI w (.returned (rate L W S)) w1 := fun L W S w1 h h1 h2 hb => ⟨L, W, S, rfl, h, h1, h2, hb⟩
  replace fin := Lib.hid fin
  obtain ⟨l, hl⟩ : ∃ t, 1 + k % 12 = t := ⟨_, rfl⟩
  have hl0 : 1 ≤ l ∧ l ≤ 12 := by omega
  have hd0 : 0 ≤ k / 108 := by omega
  have hm : (k / 108).tmod l = k / 108 % l := Int.tmod_eq_emod_of_nonneg hd0
  have hm0 := Int.emod_nonneg (k / 108) (show l ≠ 0 by omega)
  have hm1 := Int.emod_lt_of_pos (k / 108) (show 0 < l by omega)
  obtain ⟨s, hs⟩ : ∃ t, k / 108 % l = t := ⟨_, rfl⟩
  rw [hs] at hm hm0 hm1
  have hl1 : ¬ l = 0 := by omega
  go_enter Try.func10, Try.ntmps10
  go_wp2_with fail
  refine (A0.out _).mono ?_
  rintro e w' ⟨rfl, rfl⟩
  go_wp2_with fail
  refine bodyPost_ret (v := rate l (1 + k / 12 % 9) (1 + s)) (by simp [results, Try.results10, go_sem]) rfl (fin.out _ _ _ _ ?_ (by omega) (by omega) ((Bl.rfl' _).al _))
  unfold okR
  omega

def chk (L W S : Int) : Int := if 1 ≤ L ∧ L ≤ 1000 ∧ 1 ≤ W ∧ W ≤ 1000 ∧ 1 ≤ S ∧ S ≤ L then 0 else 15
theorem chk_ok {L W S : Int} (h : okR L W S) : chk L W S = 0 := if_pos h
theorem check_any (w : World) (L W S : Int) :
    Calls Try.prog 12 #[rate L W S] w fun e w' => e = .returned (.int .i64 (chk L W S)) ∧ Bl w w' := by
  unfold chk
  go_enter Try.func12, Try.ntmps12
  go_wp2_with fail
  all_goals
    go_ret
    refine ⟨ret_int ?_, (Bl.rfl' _).al _⟩
    first | rfl | (rw [if_pos (by omega)]; done) | (rw [if_neg (by omega)]; done)
theorem rcheck_any (w : World) (L W S : Int) :
    Calls Try.prog 13 #[rate L W S] w fun e w' => e = .returned (.int .i64 (chk L W S)) ∧ Bl w w' := by
  unfold chk
  go_enter Try.func13, Try.ntmps13
  go_wp2_with fail
  all_goals
    go_ret
    refine ⟨ret_int ?_, (Bl.rfl' _).al _⟩
    first | rfl | (rw [if_pos (by omega)]; done) | (rw [if_neg (by omega)]; done)

/-- A local variable's block, and what others turn. -/
theorem var_gby {w w' : World} {x p : Nat} {o : Obj} (h : w.heap[x]? = some o) (hg : w.grownBy w' (some p)) (hx : x ≠ p) : w'.heap[x]? = some o := by
  have hlt := lt_of_block h
  rw [hg.block x hlt (fun e => by cases e; omega)]; exact h
theorem var_bl {w w' : World} {x : Nat} {o : Obj} (h : w.heap[x]? = some o) (hg : Bl w w') : w'.heap[x]? = some o := by
  rw [hg.block x (lt_of_block h)]; exact h
theorem var_cells {w' : World} {x : Nat} {L W S : Int} {t : TypeId} (h : w'.heap[x]? = some (.cells #[I L, I W, I S] t (0, 0))) : w'.cell? ⟨x, 0, none⟩ = some (I L) ∧ w'.cell? ⟨x, 1, none⟩ = some (I W) ∧ w'.cell? ⟨x, 2, none⟩ = some (I S) := by
  refine ⟨?_, ?_, ?_⟩ <;> simp [World.cell?, h]

theorem lives24 (w : World) : Calls Try.prog 16 #[] w fun e w' => e = .returned (.bool true) ∧ Bl w w' := by
  have hk : okR 5 10 2 := by unfold okR; omega
  have Er := Lib.hid (fun w => error_any 5 10 2 3 false w hk (by omega) (by omega))
  go_enter Try.func16, Try.ntmps16
  go_wp2_with fail
  refine (limiter_any 5 10 2 _).mono ?_
  rintro e w1 ⟨p, rfl, hp, h, hb⟩
  have A := ask_any w1 p 5 10 2 0 0 0 h hk (by omega) (by omega) (by omega) (by omega)
  rw [show cur 10 0 0 0 = 0 by decide, show ask 5 2 0 = 2 by decide, show (0 : Int) / 10 = 0 by decide, show (0 : Int) + 2 = 2 by decide] at A
  replace A := Lib.hid A
  clear h
  go_wp2_with fail
  refine A.out.mono ?_
  rintro e w2 ⟨rfl, h, hg⟩
  replace hb := hb.gp hg hp
  have A := ask_any w2 p 5 10 2 0 2 1 h hk (by omega) (by omega) (by omega) (by omega)
  rw [show cur 10 0 2 1 = 2 by decide, show ask 5 2 2 = 2 by decide, show (1 : Int) / 10 = 0 by decide, show (2 : Int) + 2 = 4 by decide] at A
  replace A := Lib.hid A
  clear h hg
  go_wp2_with fail
  refine A.out.mono ?_
  rintro e w3 ⟨rfl, h, hg⟩
  replace hb := hb.gp hg hp
  have A := ask_any w3 p 5 10 2 0 4 9 h hk (by omega) (by omega) (by omega) (by omega)
  rw [show cur 10 0 4 9 = 4 by decide, show ask 5 2 4 = 1 by decide, show (9 : Int) / 10 = 0 by decide, show (4 : Int) + 1 = 5 by decide] at A
  replace A := Lib.hid A
  clear h hg
  go_wp2_with fail
  refine A.out.mono ?_
  rintro e w4 ⟨rfl, h, hg⟩
  replace hb := hb.gp hg hp
  have A := ask_any w4 p 5 10 2 0 5 9 h hk (by omega) (by omega) (by omega) (by omega)
  rw [show cur 10 0 5 9 = 5 by decide, show ask 5 2 5 = 0 by decide, show (9 : Int) / 10 = 0 by decide, show (5 : Int) + 0 = 5 by decide] at A
  replace A := Lib.hid A
  clear h hg
  go_wp2_with fail
  refine A.out.mono ?_
  rintro e w5 ⟨rfl, h, hg⟩
  replace hb := hb.gp hg hp
  have A := ask_any w5 p 5 10 2 0 5 10 h hk (by omega) (by omega) (by omega) (by omega)
  rw [show cur 10 0 5 10 = 0 by decide, show ask 5 2 0 = 2 by decide, show (10 : Int) / 10 = 1 by decide, show (0 : Int) + 2 = 2 by decide] at A
  replace A := Lib.hid A
  clear h hg
  go_wp2_with fail
  refine A.out.mono ?_
  rintro e w6 ⟨rfl, h, hg⟩
  replace hb := hb.gp hg hp
  clear h hg
  have h5 : ([2, 2, 1, 0, 2] : List Int).length ≤ maxLen := by simp [maxLen]
  have I1 : IntsAt (w6.alloc (.cells #[I 2, I 2, I 1, I 0, I 2] 3)) (.slice (some ⟨w6.heap.size, 0, none⟩) 5 5) [2, 2, 1, 0, 2] := ints_lit w6 3 [2, 2, 1, 0, 2] h5
  obtain ⟨w7, hw7⟩ : ∃ x, w6.alloc (.cells #[I 2, I 2, I 1, I 0, I 2] 3) = x := ⟨_, rfl⟩
  have hs7 : w7.heap.size = w6.heap.size + 1 := by rw [← hw7]; simp
  rw [hw7] at I1
  have I2 : IntsAt (w7.alloc (.cells #[I 2, I 2, I 1, I 0, I 2] 3)) (.slice (some ⟨w7.heap.size, 0, none⟩) 5 5) [2, 2, 1, 0, 2] := ints_lit w7 3 [2, 2, 1, 0, 2] h5
  have I3 := I1.below ((Bl.rfl' w7).al (.cells #[I 2, I 2, I 1, I 0, I 2] 3))
  have Sm := same_any _ _ _ _ _ I3 I2 h5 h5
  rw [← hw7, show (w6.alloc (.cells #[I 2, I 2, I 1, I 0, I 2] 3)).heap.size = w6.heap.size + 1 by simp] at Sm
  replace Sm := Lib.hid Sm
  clear I3 hw7 hs7 h5
  replace I1 := Lib.hid I1; replace I2 := Lib.hid I2
  go_wp2_with fail
  refine Sm.out.mono ?_
  rintro e w7 ⟨rfl, hb7⟩
  go_wp2_with fail
  refine (Er.out _).mono ?_
  rintro e w8 ⟨rfl, hb8⟩
  go_wp2_with fail
  go_ret
  exact ⟨rfl, hb.tr ((((Bl.rfl' w6).al _).al _).tr (hb7.tr hb8))⟩
end Go.Proofs.Ytifmoekgnbgnmaa.lease
