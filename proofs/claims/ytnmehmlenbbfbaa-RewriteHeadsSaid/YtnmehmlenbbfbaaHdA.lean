/-
  Package heads: names, values.
-/
import Derived.Test.YtnmehmlenbbfbaaKit2
import Derived.Test.YtnmehmlenbbfbaaRow
namespace Go.Proofs.Ytnmehmlenbbfbaa.heads
open Go.ChangeShapes Go.WideShapes Go.ChangeAt Go.RowKit
set_option linter.unusedVariables false
set_option linter.unusedSimpArgs false

def byteAt (s : ByteArray) (i : Nat) : Int := (s.data.getD i 0).toNat
theorem byte_at (s : ByteArray) (k : Nat) (h : k < s.size) : ((s[k]'h).toNat : Int) = byteAt s k := by
  unfold byteAt
  have : s.data.getD k 0 = s[k]'h := by
    rw [Array.getD_eq_getD_getElem?, Array.getElem?_eq_getElem h]
    rfl
  rw [this]
def allB (p : Int → Bool) (s : ByteArray) : Nat → Bool
  | 0 => true
  | k + 1 => allB p s k && p (byteAt s k)
theorem allB_less {p : Int → Bool} {s : ByteArray} : ∀ {k n : Nat}, k ≤ n → allB p s k = false → allB p s n = false
  | k, 0, h, hk => by obtain rfl : k = 0 := by omega
                      exact hk
  | k, n + 1, h, hk => by
    by_cases hkn : k = n + 1
    · subst hkn; exact hk
    · rw [allB, allB_less (k := k) (n := n) (by omega) hk, Bool.false_and]
def okN (c : Int) : Bool := decide ((97 ≤ c ∧ c ≤ 122) ∨ (48 ≤ c ∧ c ≤ 57) ∨ c = 45)
def okV (c : Int) : Bool := decide (32 ≤ c ∧ c ≤ 126)
def nameF (s : ByteArray) : Bool := allB okN s s.size && decide (1 ≤ s.size ∧ s.size ≤ 20)
def valueF (s : ByteArray) : Bool := allB okV s s.size && decide (s.size ≤ 60)

set_option maxHeartbeats 2000000 in
theorem name_any (s : ByteArray) (w : World) (hs : s.size ≤ 9223372036854775807) :
    Calls Try.prog 44 #[.string s] w fun e w' => e = .returned (.bool (nameF s)) ∧ w = w' := by
  go_enter Try.func44, Try.ntmps44
  go_wp2_with fail
  go_loopw [7] (fun i wr => ∃ k : Nat, k ≤ s.size ∧ i = I k ∧ allB okN s k = true ∧ wr = w) (fun i _ => s.size - (intOf i).toNat)
  case atStart => exact ⟨0, by omega, rfl, rfl, rfl⟩
  case round =>
    obtain ⟨k, hk, rfl, hall, rfl⟩ := hrel
    by_cases hlt : k < s.size
    · have hbt := (byte_at s k hlt).symm
      obtain ⟨c, hc⟩ : ∃ c : Int, ((s[k]'hlt).toNat : Int) = c := ⟨_, rfl⟩
      rw [hc] at hbt
      have c0 : 0 ≤ c := by omega
      have wk : IntKind.i64.wrap ((k : Int) + 1) = ((k + 1 : Nat) : Int) := by rw [IntKind.wrap_i64]; omega
      by_cases a1 : c < 97
      · by_cases a3 : c < 48
        · by_cases a5 : c = 45
          · have d1 : decide (c < 97) = true := by first | exact decide_eq_true (by omega) | exact decide_eq_false (by omega)
            have d2 : decide (122 < c) = false := by first | exact decide_eq_true (by omega) | exact decide_eq_false (by omega)
            have d3 : decide (c < 48) = true := by first | exact decide_eq_true (by omega) | exact decide_eq_false (by omega)
            have d4 : decide (57 < c) = false := by first | exact decide_eq_true (by omega) | exact decide_eq_false (by omega)
            have d5 : (c != 45) = false := by first | exact bne_iff_ne.2 (by omega) | (rw [show c = 45 by omega]; rfl)
            have d6 : decide (c > 122) = false := d2
            have d7 : decide (c > 57) = false := d4
            have hst : allB okN s (k + 1) = true := by rw [allB, hall, hbt, show okN c = true from decide_eq_true (by omega)]; rfl
            clear hall hbt
            replace hst := Lib.hid hst
            go_wp2_with fail
            go_roundw
            case rel => exact ⟨k + 1, by omega, by first | rfl | go_num, hst.out, trivial⟩
            case measure => simp [intOf] <;> omega
          · have d1 : decide (c < 97) = true := by first | exact decide_eq_true (by omega) | exact decide_eq_false (by omega)
            have d2 : decide (122 < c) = false := by first | exact decide_eq_true (by omega) | exact decide_eq_false (by omega)
            have d3 : decide (c < 48) = true := by first | exact decide_eq_true (by omega) | exact decide_eq_false (by omega)
            have d4 : decide (57 < c) = false := by first | exact decide_eq_true (by omega) | exact decide_eq_false (by omega)
            have d5 : (c != 45) = true := by first | exact bne_iff_ne.2 (by omega) | (rw [show c = 45 by omega]; rfl)
            have d6 : decide (c > 122) = false := d2
            have d7 : decide (c > 57) = false := d4
            have hst : nameF s = false := by unfold nameF; rw [allB_less (k := k + 1) (by omega) (by rw [allB, hall, hbt, show okN c = false from decide_eq_false (by omega)]; rfl), Bool.false_and]
            clear hall hbt
            replace hst := Lib.hid hst
            go_wp2_with fail
            go_ret
            exact ⟨by rw [hst.out]; rfl, rfl⟩
        · by_cases a4 : 57 < c
          · have d1 : decide (c < 97) = true := by first | exact decide_eq_true (by omega) | exact decide_eq_false (by omega)
            have d2 : decide (122 < c) = false := by first | exact decide_eq_true (by omega) | exact decide_eq_false (by omega)
            have d3 : decide (c < 48) = false := by first | exact decide_eq_true (by omega) | exact decide_eq_false (by omega)
            have d4 : decide (57 < c) = true := by first | exact decide_eq_true (by omega) | exact decide_eq_false (by omega)
            have d5 : (c != 45) = true := by first | exact bne_iff_ne.2 (by omega) | (rw [show c = 45 by omega]; rfl)
            have d6 : decide (c > 122) = false := d2
            have d7 : decide (c > 57) = true := d4
            have hst : nameF s = false := by unfold nameF; rw [allB_less (k := k + 1) (by omega) (by rw [allB, hall, hbt, show okN c = false from decide_eq_false (by omega)]; rfl), Bool.false_and]
            clear hall hbt
            replace hst := Lib.hid hst
            go_wp2_with fail
            go_ret
            exact ⟨by rw [hst.out]; rfl, rfl⟩
          · have d1 : decide (c < 97) = true := by first | exact decide_eq_true (by omega) | exact decide_eq_false (by omega)
            have d2 : decide (122 < c) = false := by first | exact decide_eq_true (by omega) | exact decide_eq_false (by omega)
            have d3 : decide (c < 48) = false := by first | exact decide_eq_true (by omega) | exact decide_eq_false (by omega)
            have d4 : decide (57 < c) = false := by first | exact decide_eq_true (by omega) | exact decide_eq_false (by omega)
            have d5 : (c != 45) = true := by first | exact bne_iff_ne.2 (by omega) | (rw [show c = 45 by omega]; rfl)
            have d6 : decide (c > 122) = false := d2
            have d7 : decide (c > 57) = false := d4
            have hst : allB okN s (k + 1) = true := by rw [allB, hall, hbt, show okN c = true from decide_eq_true (by omega)]; rfl
            clear hall hbt
            replace hst := Lib.hid hst
            go_wp2_with fail
            go_roundw
            case rel => exact ⟨k + 1, by omega, by first | rfl | go_num, hst.out, trivial⟩
            case measure => simp [intOf] <;> omega
      · by_cases a2 : 122 < c
        · have d1 : decide (c < 97) = false := by first | exact decide_eq_true (by omega) | exact decide_eq_false (by omega)
          have d2 : decide (122 < c) = true := by first | exact decide_eq_true (by omega) | exact decide_eq_false (by omega)
          have d3 : decide (c < 48) = false := by first | exact decide_eq_true (by omega) | exact decide_eq_false (by omega)
          have d4 : decide (57 < c) = true := by first | exact decide_eq_true (by omega) | exact decide_eq_false (by omega)
          have d5 : (c != 45) = true := by first | exact bne_iff_ne.2 (by omega) | (rw [show c = 45 by omega]; rfl)
          have d6 : decide (c > 122) = true := d2
          have d7 : decide (c > 57) = true := d4
          have hst : nameF s = false := by unfold nameF; rw [allB_less (k := k + 1) (by omega) (by rw [allB, hall, hbt, show okN c = false from decide_eq_false (by omega)]; rfl), Bool.false_and]
          clear hall hbt
          replace hst := Lib.hid hst
          go_wp2_with fail
          go_ret
          exact ⟨by rw [hst.out]; rfl, rfl⟩
        · have d1 : decide (c < 97) = false := by first | exact decide_eq_true (by omega) | exact decide_eq_false (by omega)
          have d2 : decide (122 < c) = false := by first | exact decide_eq_true (by omega) | exact decide_eq_false (by omega)
          have d3 : decide (c < 48) = false := by first | exact decide_eq_true (by omega) | exact decide_eq_false (by omega)
          have d4 : decide (57 < c) = true := by first | exact decide_eq_true (by omega) | exact decide_eq_false (by omega)
          have d5 : (c != 45) = true := by first | exact bne_iff_ne.2 (by omega) | (rw [show c = 45 by omega]; rfl)
          have d6 : decide (c > 122) = false := d2
          have d7 : decide (c > 57) = true := d4
          have hst : allB okN s (k + 1) = true := by rw [allB, hall, hbt, show okN c = true from decide_eq_true (by omega)]; rfl
          clear hall hbt
          replace hst := Lib.hid hst
          go_wp2_with fail
          go_roundw
          case rel => exact ⟨k + 1, by omega, by first | rfl | go_num, hst.out, trivial⟩
          case measure => simp [intOf] <;> omega
    · obtain rfl : k = s.size := by omega
      have hst : nameF s = decide (1 ≤ s.size ∧ s.size ≤ 20) := by unfold nameF; rw [hall, Bool.true_and]
      clear hall
      by_cases b1 : 1 ≤ s.size
      · by_cases b2 : s.size ≤ 20
        · rw [decide_eq_true ⟨b1, b2⟩] at hst
          have e1 : decide ((s.size : Int) ≥ 1) = true := decide_eq_true (by omega)
          have e2 : decide ((s.size : Int) ≤ 20) = true := decide_eq_true (by omega)
          replace hst := Lib.hid hst
          go_wp2_with fail
          go_ret
          exact ⟨by rw [hst.out]; rfl, rfl⟩
        · rw [decide_eq_false (fun h => b2 h.2)] at hst
          have e1 : decide ((s.size : Int) ≥ 1) = true := decide_eq_true (by omega)
          have e2 : decide ((s.size : Int) ≤ 20) = false := decide_eq_false (by omega)
          replace hst := Lib.hid hst
          go_wp2_with fail
          go_ret
          exact ⟨by rw [hst.out]; rfl, rfl⟩
      · rw [decide_eq_false (fun h => b1 h.1)] at hst
        have e1 : decide ((s.size : Int) ≥ 1) = false := decide_eq_false (by omega)
        replace hst := Lib.hid hst
        go_wp2_with fail
        go_ret
        exact ⟨by rw [hst.out]; rfl, rfl⟩

set_option maxHeartbeats 2000000 in
theorem value_any (s : ByteArray) (w : World) (hs : s.size ≤ 9223372036854775807) :
    Calls Try.prog 45 #[.string s] w fun e w' => e = .returned (.bool (valueF s)) ∧ w = w' := by
  go_enter Try.func45, Try.ntmps45
  go_wp2_with fail
  go_loopw [6] (fun i wr => ∃ k : Nat, k ≤ s.size ∧ i = I k ∧ allB okV s k = true ∧ wr = w) (fun i _ => s.size - (intOf i).toNat)
  case atStart => exact ⟨0, by omega, rfl, rfl, rfl⟩
  case round =>
    obtain ⟨k, hk, rfl, hall, rfl⟩ := hrel
    by_cases hlt : k < s.size
    · have hbt := (byte_at s k hlt).symm
      obtain ⟨c, hc⟩ : ∃ c : Int, ((s[k]'hlt).toNat : Int) = c := ⟨_, rfl⟩
      rw [hc] at hbt
      have c0 : 0 ≤ c := by omega
      have wk : IntKind.i64.wrap ((k : Int) + 1) = ((k + 1 : Nat) : Int) := by rw [IntKind.wrap_i64]; omega
      by_cases a1 : c < 32
      · have d1 : decide (c < 32) = true := by first | exact decide_eq_true (by omega) | exact decide_eq_false (by omega)
        have d2 : decide (126 < c) = false := by first | exact decide_eq_true (by omega) | exact decide_eq_false (by omega)
        have d6 : decide (c > 126) = false := d2
        have hst : valueF s = false := by unfold valueF; rw [allB_less (k := k + 1) (by omega) (by rw [allB, hall, hbt, show okV c = false from decide_eq_false (by omega)]; rfl), Bool.false_and]
        clear hall hbt
        replace hst := Lib.hid hst
        go_wp2_with fail
        go_ret
        exact ⟨by rw [hst.out]; rfl, rfl⟩
      · by_cases a2 : 126 < c
        · have d1 : decide (c < 32) = false := by first | exact decide_eq_true (by omega) | exact decide_eq_false (by omega)
          have d2 : decide (126 < c) = true := by first | exact decide_eq_true (by omega) | exact decide_eq_false (by omega)
          have d6 : decide (c > 126) = true := d2
          have hst : valueF s = false := by unfold valueF; rw [allB_less (k := k + 1) (by omega) (by rw [allB, hall, hbt, show okV c = false from decide_eq_false (by omega)]; rfl), Bool.false_and]
          clear hall hbt
          replace hst := Lib.hid hst
          go_wp2_with fail
          go_ret
          exact ⟨by rw [hst.out]; rfl, rfl⟩
        · have d1 : decide (c < 32) = false := by first | exact decide_eq_true (by omega) | exact decide_eq_false (by omega)
          have d2 : decide (126 < c) = false := by first | exact decide_eq_true (by omega) | exact decide_eq_false (by omega)
          have d6 : decide (c > 126) = false := d2
          have hst : allB okV s (k + 1) = true := by rw [allB, hall, hbt, show okV c = true from decide_eq_true (by omega)]; rfl
          clear hall hbt
          replace hst := Lib.hid hst
          go_wp2_with fail
          go_roundw
          case rel => exact ⟨k + 1, by omega, by first | rfl | go_num, hst.out, trivial⟩
          case measure => simp [intOf] <;> omega
    · obtain rfl : k = s.size := by omega
      have hst : valueF s = decide (s.size ≤ 60) := by unfold valueF; rw [hall, Bool.true_and]
      clear hall
      by_cases b1 : s.size ≤ 60
      · rw [decide_eq_true b1] at hst
        have e1 : decide ((s.size : Int) ≤ 60) = true := decide_eq_true (by omega)
        replace hst := Lib.hid hst
        go_wp2_with fail
        go_ret
        exact ⟨by rw [hst.out]; rfl, rfl⟩
      · rw [decide_eq_false b1] at hst
        have e1 : decide ((s.size : Int) ≤ 60) = false := decide_eq_false (by omega)
        replace hst := Lib.hid hst
        go_wp2_with fail
        go_ret
        exact ⟨by rw [hst.out]; rfl, rfl⟩
end Go.Proofs.Ytnmehmlenbbfbaa.heads
