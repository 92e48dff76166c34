/-
  Short: the first bytes of a text.
-/
import Derived.Test.YtpdcadlgdpkkoaaKit2
namespace Go.Proofs.Ytpdcadlgdpkkoaa
open Go.ChangeShapes Go.WideShapes Go.ChangeAt Go.RowKit
set_option linter.unusedVariables false
set_option linter.unusedSimpArgs false

def shortS (s : ByteArray) (m : Nat) : ByteArray := if m < s.size then s.extract 0 m else s
theorem shortS_size (s : ByteArray) (m : Nat) : (shortS s m).size ≤ m := by
  unfold shortS
  by_cases h : m < s.size
  · rw [if_pos h, ByteArray.size_extract]; omega
  · rw [if_neg h]; omega

theorem short_any (s : ByteArray) (m : Nat) (w : World) (hs : s.size ≤ 9223372036854775807) (hm : m ≤ 1000000) :
    Calls Try.prog 10 #[.string s, .int .i64 m] w fun e w' => e = .returned (.string (shortS s m)) ∧ w = w' := by
  unfold shortS
  by_cases h : m < s.size
  · rw [if_pos h]
    go_enter Try.func10, Try.ntmps10
    go_wp2_with fail
    go_ret

    exact ⟨rfl, rfl⟩
  · rw [if_neg h]
    go_enter Try.func10, Try.ntmps10
    go_wp2_with fail
    go_ret
    exact ⟨rfl, rfl⟩
end Go.Proofs.Ytpdcadlgdpkkoaa
