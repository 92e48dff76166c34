/-
  Package draw: Mix, Hash; the document's examples.
-/
import Derived.Test.YtbmgengcacoiaaaDrawB
namespace Go.Proofs.Ytbmgengcacoiaaa.draw
open Go.ChangeShapes Go.WideShapes Go.ChangeAt Go.RowKit
set_option linter.unusedVariables false
set_option linter.unusedSimpArgs false

def hsh (s : ByteArray) : Nat → Int
  | 0 => 14695981039346656037
  | k + 1 => if h : k < s.size then IntKind.u64.wrap (bits .xor .u64 (hsh s k) (IntKind.u64.wrap ((s[k]'h).toNat : Nat)) * 1099511628211) else hsh s k
theorem hsh_succ (s : ByteArray) (k : Nat) (h : k < s.size) : hsh s (k + 1) = IntKind.u64.wrap (bits .xor .u64 (hsh s k) (IntKind.u64.wrap ((s[k]'h).toNat : Nat)) * 1099511628211) := by rw [hsh, dif_pos h]
theorem hash_a : hsh ⟨#[97]⟩ 1 = 12638187200555641996 := by kernel_rfl
theorem first_0 : hd [] 0 = 16294208416658607535 := by kernel_rfl
theorem second_0 : hd [] (st2 [] 0) = 7960286522194355700 := by kernel_rfl

theorem hash_any (s : ByteArray) (w : World) (hs : s.size ≤ 9223372036854775807) :
    Calls Try.prog 19 #[.string s] w fun e w' => e = .returned (U (hsh s s.size)) ∧ w = w' := by
  go_enter Try.func19, Try.ntmps19
  go_wp2_with fail
  go_loop [3, 4, 7] (fun h i i' => ∃ k : Nat, k ≤ s.size ∧ h = U (hsh s k) ∧ i' = I k) (fun _ _ i => s.size - (intOf i).toNat)
  case atStart => exact ⟨0, by omega, rfl, rfl⟩
  case round =>
    obtain ⟨k, hk, rfl, rfl⟩ := hrel
    by_cases hlt : k < s.size
    · go_wp2_with fail
      go_round
      case rel => exact ⟨k + 1, by omega, by rw [hsh_succ s k hlt], by go_num⟩
      case measure => simp [intOf]; omega
    · obtain rfl : k = s.size := by omega
      go_wp2_with fail
      go_ret
      exact ⟨rfl, rfl⟩

theorem lives02 (w : World) : Calls Try.prog 12 #[] w fun e w' => e = .returned (.bool true) ∧ Bl w w' := by
  go_enter Try.func12, Try.ntmps12
  go_wp2_with fail
  refine (new_nil w 0 none 0 (by omega) (by omega)).mono ?_
  rintro e w1 ⟨p, rfl, hp, hat, hb⟩
  go_wp2_with fail
  refine (next_any _ p _ _ _ hat (by omega) (by omega)).mono ?_
  rintro e w2 ⟨rfl, hat2, hg2⟩
  rw [first_0]
  go_wp2_with fail
  refine (next_any _ p _ _ _ hat2 (by omega) (by omega)).mono ?_
  rintro e w3 ⟨rfl, hat3, hg3⟩
  rw [show hd ([] : List Int).tail (st2 [] 0) = 7960286522194355700 from second_0]
  go_wp2_with fail
  refine (hash_any ⟨#[97]⟩ _ (by decide)).mono ?_
  rintro e w4 ⟨rfl, rfl⟩
  rw [show hsh ⟨#[97]⟩ (ByteArray.size ⟨#[97]⟩) = 12638187200555641996 from hash_a]
  go_wp2_with fail
  refine (used_any _ p _ _ _ hat3).mono ?_
  rintro e w5 ⟨rfl, rfl⟩
  go_wp2_with fail
  go_ret
  exact ⟨rfl, (hb.gp hg2 hp).gp hg3 hp⟩
end Go.Proofs.Ytbmgengcacoiaaa.draw
