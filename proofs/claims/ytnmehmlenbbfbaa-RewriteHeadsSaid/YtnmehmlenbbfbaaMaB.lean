/-
  Package match: which text is a path.
-/
import Derived.Test.YtnmehmlenbbfbaaMaA
import Derived.Test.YtnmehmlenbbfbaaTch
import Derived.Test.YtnmehmlenbbfbaaHdB
import Derived.Lib.TrimU
import Derived.Lib.OthersKept
import Derived.Deep.LoopGhost
namespace Go.Proofs.Ytnmehmlenbbfbaa.mat
open Go.ChangeShapes Go.WideShapes Go.ChangeAt Go.RowKit
open Go.Proofs.Ytnmehmlenbbfbaa.heads
set_option linter.unusedVariables false
set_option linter.unusedSimpArgs false

set_option maxHeartbeats 2000000 in
theorem sign_any (c : Int) (w : World) (h0 : 0 ≤ c) (h1 : c ≤ 1114111) :
    Calls Try.prog 40 #[.int .i32 c] w fun e w' => e = .returned (.bool (signF c)) ∧ w = w' := by
  by_cases a : 97 ≤ c
  · by_cases b : c ≤ 122
    · have d1 : decide (c ≥ 97) = true := by first | exact decide_eq_true (by omega) | exact decide_eq_false (by omega)
      have d2 : decide (c ≤ 122) = true := by first | exact decide_eq_true (by omega) | exact decide_eq_false (by omega)
      have d3 : decide (c ≥ 48) = true := by first | exact decide_eq_true (by omega) | exact decide_eq_false (by omega)
      have d4 : decide (c ≤ 57) = false := by first | exact decide_eq_true (by omega) | exact decide_eq_false (by omega)
      have d5 : decide (97 ≤ c) = true := d1
      have d6 : decide (48 ≤ c) = true := d3
      have hs : signF c = true := by first | exact decide_eq_true (by omega) | exact decide_eq_false (by omega)
      rw [hs]
      clear hs
      go_enter Try.func40, Try.ntmps40
      go_wp2_with fail
      go_ret
      exact ⟨rfl, rfl⟩
    · have d1 : decide (c ≥ 97) = true := by first | exact decide_eq_true (by omega) | exact decide_eq_false (by omega)
      have d2 : decide (c ≤ 122) = false := by first | exact decide_eq_true (by omega) | exact decide_eq_false (by omega)
      have d3 : decide (c ≥ 48) = true := by first | exact decide_eq_true (by omega) | exact decide_eq_false (by omega)
      have d4 : decide (c ≤ 57) = false := by first | exact decide_eq_true (by omega) | exact decide_eq_false (by omega)
      have d5 : decide (97 ≤ c) = true := d1
      have d6 : decide (48 ≤ c) = true := d3
      have e1 : (c == 45) = false := by first | exact beq_iff_eq.2 (by omega) | exact beq_eq_false_iff_ne.2 (by omega)
      have e2 : (c == 95) = false := by first | exact beq_iff_eq.2 (by omega) | exact beq_eq_false_iff_ne.2 (by omega)
      have e3 : (c == 46) = false := by first | exact beq_iff_eq.2 (by omega) | exact beq_eq_false_iff_ne.2 (by omega)
      have hs : signF c = false := by first | exact decide_eq_true (by omega) | exact decide_eq_false (by omega)
      rw [hs]
      clear hs
      go_enter Try.func40, Try.ntmps40
      go_wp2_with fail
      go_ret
      exact ⟨rfl, rfl⟩
  · by_cases b : 48 ≤ c
    · by_cases d : c ≤ 57
      · have d1 : decide (c ≥ 97) = false := by first | exact decide_eq_true (by omega) | exact decide_eq_false (by omega)
        have d2 : decide (c ≤ 122) = true := by first | exact decide_eq_true (by omega) | exact decide_eq_false (by omega)
        have d3 : decide (c ≥ 48) = true := by first | exact decide_eq_true (by omega) | exact decide_eq_false (by omega)
        have d4 : decide (c ≤ 57) = true := by first | exact decide_eq_true (by omega) | exact decide_eq_false (by omega)
        have d5 : decide (97 ≤ c) = false := d1
        have d6 : decide (48 ≤ c) = true := d3
        have hs : signF c = true := by first | exact decide_eq_true (by omega) | exact decide_eq_false (by omega)
        rw [hs]
        clear hs
        go_enter Try.func40, Try.ntmps40
        go_wp2_with fail
        go_ret
        exact ⟨rfl, rfl⟩
      · have d1 : decide (c ≥ 97) = false := by first | exact decide_eq_true (by omega) | exact decide_eq_false (by omega)
        have d2 : decide (c ≤ 122) = true := by first | exact decide_eq_true (by omega) | exact decide_eq_false (by omega)
        have d3 : decide (c ≥ 48) = true := by first | exact decide_eq_true (by omega) | exact decide_eq_false (by omega)
        have d4 : decide (c ≤ 57) = false := by first | exact decide_eq_true (by omega) | exact decide_eq_false (by omega)
        have d5 : decide (97 ≤ c) = false := d1
        have d6 : decide (48 ≤ c) = true := d3
        by_cases f : c = 95
        · have e1 : (c == 45) = false := by first | exact beq_iff_eq.2 (by omega) | exact beq_eq_false_iff_ne.2 (by omega)
          have e2 : (c == 95) = true := by first | exact beq_iff_eq.2 (by omega) | exact beq_eq_false_iff_ne.2 (by omega)
          have e3 : (c == 46) = false := by first | exact beq_iff_eq.2 (by omega) | exact beq_eq_false_iff_ne.2 (by omega)
          have hs : signF c = true := by first | exact decide_eq_true (by omega) | exact decide_eq_false (by omega)
          rw [hs]
          clear hs
          go_enter Try.func40, Try.ntmps40
          go_wp2_with fail
          go_ret
          exact ⟨rfl, rfl⟩
        · have e1 : (c == 45) = false := by first | exact beq_iff_eq.2 (by omega) | exact beq_eq_false_iff_ne.2 (by omega)
          have e2 : (c == 95) = false := by first | exact beq_iff_eq.2 (by omega) | exact beq_eq_false_iff_ne.2 (by omega)
          have e3 : (c == 46) = false := by first | exact beq_iff_eq.2 (by omega) | exact beq_eq_false_iff_ne.2 (by omega)
          have hs : signF c = false := by first | exact decide_eq_true (by omega) | exact decide_eq_false (by omega)
          rw [hs]
          clear hs
          go_enter Try.func40, Try.ntmps40
          go_wp2_with fail
          go_ret
          exact ⟨rfl, rfl⟩
    · have d1 : decide (c ≥ 97) = false := by first | exact decide_eq_true (by omega) | exact decide_eq_false (by omega)
      have d2 : decide (c ≤ 122) = true := by first | exact decide_eq_true (by omega) | exact decide_eq_false (by omega)
      have d3 : decide (c ≥ 48) = false := by first | exact decide_eq_true (by omega) | exact decide_eq_false (by omega)
      have d4 : decide (c ≤ 57) = true := by first | exact decide_eq_true (by omega) | exact decide_eq_false (by omega)
      have d5 : decide (97 ≤ c) = false := d1
      have d6 : decide (48 ≤ c) = false := d3
      by_cases f : c = 45
      · have e1 : (c == 45) = true := by first | exact beq_iff_eq.2 (by omega) | exact beq_eq_false_iff_ne.2 (by omega)
        have e2 : (c == 95) = false := by first | exact beq_iff_eq.2 (by omega) | exact beq_eq_false_iff_ne.2 (by omega)
        have e3 : (c == 46) = false := by first | exact beq_iff_eq.2 (by omega) | exact beq_eq_false_iff_ne.2 (by omega)
        have hs : signF c = true := by first | exact decide_eq_true (by omega) | exact decide_eq_false (by omega)
        rw [hs]
        clear hs
        go_enter Try.func40, Try.ntmps40
        go_wp2_with fail
        go_ret
        exact ⟨rfl, rfl⟩
      · by_cases g : c = 46
        · have e1 : (c == 45) = false := by first | exact beq_iff_eq.2 (by omega) | exact beq_eq_false_iff_ne.2 (by omega)
          have e2 : (c == 95) = false := by first | exact beq_iff_eq.2 (by omega) | exact beq_eq_false_iff_ne.2 (by omega)
          have e3 : (c == 46) = true := by first | exact beq_iff_eq.2 (by omega) | exact beq_eq_false_iff_ne.2 (by omega)
          have hs : signF c = true := by first | exact decide_eq_true (by omega) | exact decide_eq_false (by omega)
          rw [hs]
          clear hs
          go_enter Try.func40, Try.ntmps40
          go_wp2_with fail
          go_ret
          exact ⟨rfl, rfl⟩
        · have e1 : (c == 45) = false := by first | exact beq_iff_eq.2 (by omega) | exact beq_eq_false_iff_ne.2 (by omega)
          have e2 : (c == 95) = false := by first | exact beq_iff_eq.2 (by omega) | exact beq_eq_false_iff_ne.2 (by omega)
          have e3 : (c == 46) = false := by first | exact beq_iff_eq.2 (by omega) | exact beq_eq_false_iff_ne.2 (by omega)
          have hs : signF c = false := by first | exact decide_eq_true (by omega) | exact decide_eq_false (by omega)
          rw [hs]
          clear hs
          go_enter Try.func40, Try.ntmps40
          go_wp2_with fail
          go_ret
          exact ⟨rfl, rfl⟩

def oddF (r a : Int) : Bool := (decide (r = 47) && decide (a = 47)) || (!(decide (r = 47)) && !(signF r))
abbrev B1 (x : Int) : Obj := .cells #[.int .u8 x] 5
set_option maxHeartbeats 2000000 in
theorem path1_any (r a : Int) (p : Nat) (w : World) (h0 : 0 ≤ r) (h1 : r ≤ 1114111) (hp : w.heap[p]? = some (B1 a)) :
    Calls Try.prog 39 #[.int .i32 r, .pointer (some ⟨p, 0, none⟩)] w fun e w' => e = .returned (.bool (oddF r a)) ∧ w'.heap[p]? = some (B1 (r % 256)) ∧ w.grownBy w' (some p) := by
  have c0 := cell_at hp 0
  have f0 := free_at hp 0
  simp only [List.getElem?_toArray, List.getElem?_cons_zero] at c0
  have wr8 : IntKind.u8.wrap r = r % 256 := by rw [IntKind.wrap_u8]
  have hg := gby_set w p 0 (.int .u8 (r % 256))
  have hs := set_at 0 (.int .u8 (r % 256)) hp
  simp only [List.setIfInBounds_toArray, List.set_cons_zero] at hs
  have SG := fun w => sign_any r w h0 h1
  obtain ⟨w2, hw2⟩ : ∃ X, w.setCell ⟨p, 0, none⟩ (.int .u8 (r % 256)) = X := ⟨_, rfl⟩
  rw [hw2] at hg hs
  by_cases hr : r = 47
  · have e1 : (r == 47) = true := beq_iff_eq.2 hr
    have e2 : (r != 47) = false := by rw [bne, e1]; rfl
    have ho : oddF r a = decide (a = 47) := by unfold oddF; rw [decide_eq_true hr]; simp
    rw [ho]
    clear ho hr hp SG
    by_cases ha : a = 47
    · have e3 : (a == 47) = true := beq_iff_eq.2 ha
      rw [decide_eq_true ha]
      clear ha
      replace hg := Lib.hid hg
      replace hs := Lib.hid hs
      go_enter Try.func39, Try.ntmps39
      go_wp2_with fail
      go_ret
      exact ⟨rfl, hs.out, hg.out⟩
    · have e3 : (a == 47) = false := beq_eq_false_iff_ne.2 ha
      rw [decide_eq_false ha]
      clear ha
      replace hg := Lib.hid hg
      replace hs := Lib.hid hs
      go_enter Try.func39, Try.ntmps39
      go_wp2_with fail
      go_ret
      exact ⟨rfl, hs.out, hg.out⟩
  · have e1 : (r == 47) = false := beq_eq_false_iff_ne.2 hr
    have e2 : (r != 47) = true := by rw [bne, e1]; rfl
    have ho : oddF r a = !(signF r) := by unfold oddF; rw [decide_eq_false hr]; rfl
    rw [ho]
    obtain ⟨b, hb⟩ : ∃ z_, (signF r) = z_ := ⟨_, rfl⟩
    rw [hb]
    simp only [hb] at SG
    clear ho hr hp hb
    replace hg := Lib.hid hg
    replace hs := Lib.hid hs
    replace SG := Lib.hid SG
    go_enter Try.func39, Try.ntmps39
    go_wp2_with fail
    with_reducible refine (SG.out _).mono ?_
    rintro e w3 ⟨rfl, rfl⟩
    cases b with
    | true =>
      go_wp2_with fail
      go_ret
      exact ⟨rfl, hs.out, hg.out⟩
    | false =>
      go_wp2_with fail
      go_ret
      exact ⟨rfl, hs.out, hg.out⟩
end Go.Proofs.Ytnmehmlenbbfbaa.mat
