/-
  SplitPicks is true for every input: which part a number stands for is the document's. No condition.
-/
import Derived.Test.YtndlglkokbchbaaSpI
namespace Go.Proofs.Ytndlglkokbchbaa.splitPicks
open Go.ChangeShapes Go.WideShapes Go.ChangeAt Go.RowKit
open Go.Proofs.Ytndlglkokbchbaa.split
set_option linter.unusedVariables false
set_option linter.unusedSimpArgs false

set_option maxHeartbeats 4000000 in
theorem walk {w : World} (v0 : Value) (z0 : List Int) (hv0 : IntsAt w v0 z0) (hz0 : i64ok z0) (hm0 : z0.length ≤ maxLen) (d : Int) (d0 : 0 ≤ d) (d1 : d ≤ 18446744073709551615) :
    Calls Try.prog 4 #[v0, .int .u64 d] w fun e w' => e = .returned (.bool true) ∧ Bl w w' := by
  have MD := Lib.hid (made_any z0 v0 w hv0 hz0 hm0)
  have LV := Lib.hid lives_any
  replace hv0 := Lib.hid hv0
  go_enter Try.func4, Try.ntmps4
  go_wp2_with fail
  first | with_reducible refine (MD.out).mono ?_ | refine (MD.out).mono ?_
  rintro e w1 ⟨v, R, rfl, hm, ho, hb1⟩
  have hp := (own_parts ho (by have := hm.len; omega) hm.i64).ok hm.ok
  have hpos := hm.ahd_pos
  have PK := Lib.hid (pick_any v R d d0 d1 w1 hp)
  have RP := Lib.hid (fun w' (hb : Bl w1 w') => rpick_any v R d d0 d1 w' (hp.bl hb) hpos)
  clear hp hpos ho MD
  obtain ⟨P, hP⟩ : ∃ z_, (pickF R d) = z_ := ⟨_, rfl⟩
  rw [hP] at PK
  simp only [hP] at RP
  have hPP : (P == P) = true := by simp
  clear hP
  replace hb1 := Lib.hid hb1
  replace hm := Lib.hid hm
  go_wp2_with fail
  first | with_reducible refine (PK.out).mono ?_ | refine (PK.out).mono ?_
  rintro e w2 ⟨rfl, hb2⟩
  go_wp2_with fail
  first | with_reducible refine (RP.out _ hb2).mono ?_ | refine (RP.out _ hb2).mono ?_
  rintro e w3 ⟨rfl, rfl⟩
  have hb3 := hb1.out.tr hb2
  replace hb2 := Lib.hid hb2
  replace hb3 := Lib.hid hb3
  go_wp2_with fail
  first | with_reducible refine (LV.out _).mono ?_ | refine (LV.out _).mono ?_
  rintro e w4 ⟨rfl, hb4⟩
  go_wp2_with fail
  go_ret
  exact ⟨rfl, hb3.out.tr hb4⟩
end Go.Proofs.Ytndlglkokbchbaa.splitPicks
