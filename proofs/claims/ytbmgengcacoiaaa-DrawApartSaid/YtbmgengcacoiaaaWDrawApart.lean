/-
  DrawApart is true for every input: Mix is one to one in each of its two, and the first numbers of a seed are unlike. No condition.
-/
import Derived.Test.YtbmgengcacoiaaaMixA
import Derived.Test.YtbmgengcacoiaaaHas
namespace Go.Proofs.Ytbmgengcacoiaaa.drawApart
open Go.ChangeShapes Go.WideShapes Go.ChangeAt Go.RowKit
open Go.Proofs.Ytbmgengcacoiaaa.draw
set_option linter.unusedVariables false
set_option linter.unusedSimpArgs false

def nums (seed : Int) (k : Nat) : List Int := (List.range k).map (num seed)
theorem nums_len (seed : Int) (k : Nat) : (nums seed k).length = k := by simp [nums]
theorem nums_succ (seed : Int) (k : Nat) : us (nums seed (k + 1)) = us (nums seed k) ++ [U (num seed k)] := by simp [nums, us, List.range_succ]
theorem nums_get (seed : Int) (k i : Nat) (h : i < k) : (nums seed k).getD i 0 = num seed i := by simp [nums, List.getD_eq_getElem?_getD, h]

theorem beq_iff {a b c d : Int} (h : a = b ↔ c = d) : (a == b) = (c == d) := by
  by_cases hc : c = d
  · have ha := h.2 hc; rw [beq_iff_eq.2 ha, beq_iff_eq.2 hc]
  · have ha : ¬ a = b := fun e => hc (h.1 e)
    rw [beq_eq_false_iff_ne.2 ha, beq_eq_false_iff_ne.2 hc]

set_option maxHeartbeats 2000000 in
theorem walk (a : Int) (a0 : 0 ≤ a) (a1 : a ≤ 18446744073709551615) (b : Int) (b0 : 0 ≤ b) (b1 : b ≤ 18446744073709551615) (c : Int) (c0 : 0 ≤ c) (c1 : c ≤ 18446744073709551615)
    (seed : Int) (s0 : 0 ≤ seed) (s1 : seed ≤ 18446744073709551615) (w : World) :
    Calls Try.prog 5 #[.int .u64 a, .int .u64 b, .int .u64 c, .int .u64 seed] w fun e w' => e = .returned (.bool true) ∧ Bl w w' := by
  have M1 := Lib.hid (fun w => mix_any a b w a0 a1 b0 b1)
  have M2 := Lib.hid (fun w => mix_any a c w a0 a1 c0 c1)
  have M3 := Lib.hid (fun w => mix_any b c w b0 b1 c0 c1)
  have e1 := beq_iff (mix_right (a := a) b0 b1 c0 c1)
  have e2 := beq_iff (mix_left a0 a1 b0 b1 c0 c1)
  obtain ⟨x, hx⟩ : ∃ x, mix a b = x := ⟨_, rfl⟩
  obtain ⟨y, hy⟩ : ∃ x, mix a c = x := ⟨_, rfl⟩
  obtain ⟨z, hz⟩ : ∃ x, mix b c = x := ⟨_, rfl⟩
  rw [hx] at M1 e1; rw [hy] at M2 e1 e2; rw [hz] at M3 e2
  clear hx hy hz
  obtain ⟨iu, hiu, zu0, zu1, zu2⟩ := info_parts Try.info22
  go_enter Try.func5, Try.ntmps5
  go_wp2_with fail
  refine (M1.out _).mono ?_
  rintro e w' ⟨rfl, rfl⟩
  go_wp2_with fail
  refine (M2.out _).mono ?_
  rintro e w' ⟨rfl, rfl⟩
  go_wp2_with fail
  refine (M2.out _).mono ?_
  rintro e w' ⟨rfl, rfl⟩
  go_wp2_with fail
  refine (M3.out _).mono ?_
  rintro e w' ⟨rfl, rfl⟩
  go_wp2_with fail
  refine (new_nil _ seed none 0 s0 s1).mono ?_
  rintro e w1 ⟨p, rfl, hwp, hat, hb1⟩
  replace hat := hat.weak
  have hp1 := hat.lt
  go_wp2_with fail
  have hok : ∀ (wr' : World) (s : Value) (k : Nat), wr'.ownsRow (p + 1) 22 1 s k (us (nums seed k)) → Rd wr' s k (k * 1) (fun i => U ((nums seed k).getD i 0)) := by
    intro wr' s k h
    exact Rd.of_own h (fun i hi => us_get _ i (by rw [nums_len]; omega))
  replace hok := Lib.hid hok
  go_loopw [10, 11, 12, 13] (fun s i _ _ wr => ∃ k : Nat, k ≤ 40 ∧ wr.ownsRow (p + 1) 22 1 s k (us (nums seed k)) ∧ i = I k ∧ At wr p [] (stk seed k) k ∧ Bl w wr) (fun _ i _ _ _ => 40 - (intOf i).toNat)
  case atStart => exact ⟨0, by omega, World.ownsRow_nil _ _ _ _, rfl, hat, hb1⟩
  case round =>
    obtain ⟨k, hk, hown, rfl, hat, hbl⟩ := hrel
    by_cases hlt : k < 40
    · have N := next_any wr p _ _ _ hat (by omega) (by omega)
      change Calls _ _ _ _ (fun e w' => e = .returned (U (num seed k)) ∧ At w' p [] (stk seed (k + 1)) ((k : Int) + 1) ∧ wr.grownBy w' (some p)) at N
      have hsucc := Lib.hid (nums_succ seed k)
      have hdiff := Lib.hid (fun i (hi : i < k) => num_inj seed s0 s1 hlt hi)
      obtain ⟨x, hx⟩ : ∃ x, num seed k = x := ⟨_, rfl⟩
      rw [hx] at N hsucc hdiff
      replace N := Lib.hid N
      clear hx hat
      go_wp2_with fail
      refine N.out.mono ?_
      rintro e w2 ⟨rfl, hat2, hg2⟩
      have hown2 : w2.ownsRow (p + 1) 22 1 u10 k (us (nums seed k)) := hown.kept hg2 (Or.inr (fun h => by have := (hown.lt p h).1; omega))
      have hb3 : Bl w w2 := hbl.gp hg2 hwp
      have hp2 := hat2.lt
      have hrd := Lib.hid (hok.out w2 u10 k hown2)
      clear hown hg2 hbl
      go_wp2_with fail
      go_loop [13] (fun i => ∃ j : Nat, j ≤ k ∧ i = I j) (fun i => k - (intOf i).toNat)
      case atStart => exact ⟨0, by omega, rfl⟩
      case round =>
        obtain ⟨j, hj, rfl⟩ := hrel
        by_cases hlt2 : j < k
        · obtain ⟨sb, off, cap, hv, hcap, hcm, hsl, hcc⟩ : ∃ b' off cap, u10 = .slice (some ⟨b', off, none⟩) k cap ∧ k ≤ cap ∧ cap ≤ maxLen ∧ b' < w2.heap.size ∧ ∀ i, i < k * 1 → w2.cell? ⟨b', off + i, none⟩ = some (U ((nums seed k).getD i 0)) := by
            rcases hrd.out with ⟨_, _, _, h, _⟩ | h
            · omega
            · exact h
          have cj := hcc j (by omega)
          rw [nums_get seed k j hlt2] at cj
          have hne : (num seed j == x) = false := beq_eq_false_iff_ne.2 (hdiff.out j hlt2)
          obtain ⟨y, hy⟩ : ∃ y, num seed j = y := ⟨_, rfl⟩
          rw [hy] at cj hne
          clear hy hcc
          subst hv
          unfold maxLen at hcm
          go_wp2_with fail
          go_round
          case rel => exact ⟨j + 1, by omega, by go_num⟩
          case measure => simp [intOf]; omega
        · obtain rfl : j = k := by omega
          go_wp2_with (at_builtin; refine wpList_append_own _ rfl _ _ 30 rfl (p + 1) 22 iu (.int .u64 0) 1 8 Try.underlying30 hiu zu0 zu1 zu2 rfl (by decide) _ j (us (nums seed j)) rfl (hown2.alloc _) ⟨w2.heap.size, 0, none⟩ 1 1 [U x] rfl rfl ?d1 ?d2 ?d3 ?d4 ?d5 ?_)
          case d2 => first | rfl | (intro u hu; simp at hu; subst hu; rfl)
          case d3 => first | omega | (unfold maxLen; omega)
          case d4 => omega
          case d5 => first | omega | (simp; omega)
          intro v' w3 hown' hgrow _
          have hat3 := (hat2.alloc (.cells #[.int .u64 x] 22)).grown hgrow (fun k hk => by have := (hown2.lt k hk).1; omega)
          have hb4 : Bl w w3 := (hb3.al _).grown hgrow (fun k hk => by have := (hown2.lt k hk).1; omega)
          rw [← hsucc.out] at hown'
          clear hgrow hown2 hb3 hat2
          go_wp2_with fail
          go_roundw
          case rel => exact ⟨j + 1, by omega, hown', by go_num, hat3, hb4⟩
          case measure => simp [intOf]; omega
    · obtain rfl : k = 40 := by omega
      go_wp2_with fail
      refine (lives02 _).mono ?_
      rintro e w4 ⟨rfl, hb4⟩
      go_wp2_with fail
      go_ret
      exact ⟨rfl, hbl.tr hb4⟩
end Go.Proofs.Ytbmgengcacoiaaa.drawApart
