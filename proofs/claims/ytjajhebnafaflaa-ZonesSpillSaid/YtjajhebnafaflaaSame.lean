/-
  SameInts: are lists of numbers the same?
-/
import Derived.Test.YtjajhebnafaflaaGen
namespace Go.Proofs.Ytjajhebnafaflaa
open Go.ChangeShapes Go.WideShapes Go.ChangeAt Go.RowKit
set_option linter.unusedVariables false
set_option linter.unusedSimpArgs false

theorem eq_of_takes {x y : List Int} (h : x.length = y.length) (ht : x.take x.length = y.take x.length) : x = y := by
  rw [List.take_length] at ht
  rw [h, List.take_length] at ht
  exact ht

theorem same_any (x y : List Int) (v u : Value) (w : World) (hv : IntsAt w v x) (hu : IntsAt w u y) (hm : x.length ≤ maxLen) (hn : y.length ≤ maxLen) :
    Calls Try.prog 14 #[v, u] w fun e w' => e = .returned (.bool (decide (x = y))) ∧ Bl w w' := by
  unfold maxLen at hm hn
  obtain ⟨a, c, rfl, ha⟩ := rd_any hv
  obtain ⟨b, d, rfl, hb⟩ := rd_any hu
  replace ha := Lib.hid ha; replace hb := Lib.hid hb
  clear hv hu
  by_cases hl : x.length = y.length
  · have e1 : ((x.length : Int) != (y.length : Int)) = false := by rw [hl]; simp
    replace hl := Lib.hid hl
    go_enter Try.func14, Try.ntmps14
    go_wp2_with fail
    go_loopw [5] (fun i wr => ∃ k : Nat, k ≤ x.length ∧ i = I k ∧ x.take k = y.take k ∧ Bl w wr) (fun i _ => x.length - (intOf i).toNat)
    case atStart => exact ⟨0, by omega, rfl, by simp, Bl.rfl' _⟩
    case round =>
      obtain ⟨k, hk, rfl, ht, hbr⟩ := hrel
      replace ht := Lib.hid ht
      by_cases hlt : k < x.length
      · obtain ⟨b1, o1, rfl, c1⟩ := ha.out wr.drew hbr.dr k hlt
        have hl2 := hl.out
        obtain ⟨b2, o2, rfl, c2⟩ := hb.out wr.drew hbr.dr k (by omega)
        have t1 := Lib.hid (take_snoc x k 0 hlt)
        have t2 := Lib.hid (take_snoc y k 0 (by omega))
        unfold icell at c1 c2
        obtain ⟨p, hp⟩ : ∃ p, x.getD k 0 = p := ⟨_, rfl⟩
        obtain ⟨q, hq⟩ : ∃ p, y.getD k 0 = p := ⟨_, rfl⟩
        have hne : p ≠ q → x ≠ y := fun h e => h (by rw [← hp, ← hq, e])
        rw [hp] at c1 t1; rw [hq] at c2 t2
        have k1 : (k : Int) < x.length := by omega
        have k2 : (k : Int) < y.length := by omega
        clear hp hq hl2
        by_cases hpq : p = q
        · subst hpq
          have e2 : (p != p) = false := by simp
          clear hne
          go_wp2_with fail
          go_region
          go_wp2_with fail
          go_roundw
          case rel => exact ⟨k + 1, by omega, by go_num, by rw [t1.out, t2.out, ht.out], hbr.dr⟩
          case measure => simp [intOf]; omega
        · have e2 : (p != q) = true := bne_iff_ne.2 hpq
          have hd := Lib.hid (decide_eq_false (hne hpq))
          clear hne hpq
          go_wp2_with fail
          go_region
          go_wp2_with fail
          go_ret
          exact ⟨by rw [hd.out]; rfl, hbr.dr⟩
      · obtain rfl : k = x.length := by omega
        have hd := Lib.hid (decide_eq_true (eq_of_takes hl.out ht.out))
        go_wp2_with fail
        go_ret
        exact ⟨by rw [hd.out]; rfl, hbr⟩
  · have e1 : ((x.length : Int) != (y.length : Int)) = true := bne_iff_ne.2 (by omega)
    have hd := Lib.hid (decide_eq_false (fun e : x = y => hl (by rw [e])))
    replace hl := Lib.hid hl
    go_enter Try.func14, Try.ntmps14
    go_wp2_with fail
    go_ret
    exact ⟨by rw [hd.out]; rfl, Bl.rfl' _⟩
end Go.Proofs.Ytjajhebnafaflaa
