/-
  Has: is a number among some?
-/
import Derived.Test.YtjajhebnafaflaaGen
namespace Go.Proofs.Ytjajhebnafaflaa
open Go.ChangeShapes Go.WideShapes Go.ChangeAt Go.RowKit
set_option linter.unusedVariables false
set_option linter.unusedSimpArgs false

theorem has_any (z : List Int) (n : Int) (v : Value) (w : World) (hv : IntsAt w v z) (hm : z.length ≤ maxLen) :
    Calls Try.prog 20 #[v, .int .i64 n] w fun e w' => e = .returned (.bool (decide (n ∈ z))) ∧ w = w' := by
  unfold maxLen at hm
  rcases hv with ⟨a, c, rfl, h0, _⟩ | ⟨b, off, cap, rfl, hcap, _, hlt, hc⟩
  · have hn : z = [] := List.eq_nil_of_length_eq_zero h0
    subst hn
    go_enter Try.func20, Try.ntmps20
    go_wp2_with fail
    go_loop [5] (fun i => i = I 0) (fun _ => 0)
    case atStart => exact rfl
    case round =>
      obtain rfl := hrel
      go_wp2_with fail
      go_ret
      exact ⟨by simp, rfl⟩
  · have Hc := Lib.hid hc; clear hc
    go_enter Try.func20, Try.ntmps20
    go_wp2_with fail
    go_loop [5] (fun i => ∃ k : Nat, k ≤ z.length ∧ i = I k ∧ n ∉ z.take k) (fun i => z.length - (intOf i).toNat)
    case atStart => exact ⟨0, by omega, rfl, by simp⟩
    case round =>
      obtain ⟨k, hk, rfl, hno⟩ := hrel
      replace hno := Lib.hid hno
      by_cases hlt2 : k < z.length
      · have c0 : w.cell? ⟨b, off + k, none⟩ = some (.int .i64 (z.getD k 0)) := Hc.out k hlt2
        have hmem := Lib.hid (getD_mem z k 0 hlt2)
        have htk := Lib.hid (take_snoc z k 0 hlt2)
        obtain ⟨x, hx⟩ : ∃ x, z.getD k 0 = x := ⟨_, rfl⟩
        rw [hx] at c0 hmem htk
        have k1 : (k : Int) < z.length := by omega
        clear hx
        by_cases hxn : x = n
        · subst hxn
          have e1 : (x == x) = true := by simp
          go_wp2_with fail
          go_ret
          exact ⟨by rw [decide_eq_true hmem.out]; rfl, rfl⟩
        · have e1 : (x == n) = false := beq_eq_false_iff_ne.2 hxn
          replace hxn := Lib.hid hxn
          go_wp2_with fail
          go_round
          case rel =>
            refine ⟨k + 1, by omega, by go_num, ?_⟩
            rw [htk.out]
            simp only [List.mem_append, List.mem_singleton]
            rintro (h | h)
            · exact hno.out h
            · exact hxn.out h.symm
          case measure => simp [intOf]; omega
      · obtain rfl : k = z.length := by omega
        have hn : decide (n ∈ z) = false := by
          have := hno.out
          rw [List.take_length] at this
          exact decide_eq_false this
        replace hn := Lib.hid hn
        go_wp2_with fail
        go_ret
        exact ⟨by rw [hn.out]; rfl, rfl⟩
end Go.Proofs.Ytjajhebnafaflaa
