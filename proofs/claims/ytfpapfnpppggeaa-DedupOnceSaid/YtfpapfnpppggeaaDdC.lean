/-
  Package dedup: Has, Put, Len.
-/
import Derived.Test.YtfpapfnpppggeaaDdB
namespace Go.Proofs.Ytfpapfnpppggeaa.dedup
open Go.ChangeShapes Go.WideShapes Go.ChangeAt Go.RowKit
set_option linter.unusedVariables false
set_option linter.unusedSimpArgs false

theorem InvR.left {h now : Int} {R : List En} (hi : InvR h R) : InvR h (leftR h now R) :=
  ⟨List.Pairwise.sublist (List.dropWhile_sublist _) hi.1, fun x hx => hi.2 x ((List.dropWhile_sublist _).subset hx)⟩
theorem leftR_len {h now : Int} {R : List En} : (leftR h now R).length ≤ R.length := List.Sublist.length_le (List.dropWhile_sublist _)

set_option maxHeartbeats 4000000 in
theorem has_any {ks : Nat → Prop} {w : World} {p : Nat} {h : Int} {R : List En} (t : TB ks w p h R) (hi : InvR h R) (hR : R.length ≤ 1000000) (h0 : 1 ≤ h) (h1 : h ≤ 1000000) (now : Int) (key : ByteArray) :
    Calls Try.prog 13 #[ptr p, I now, sV key] w fun e w' => e = .returned (.bool (remB h now R key)) ∧ TB ks w' p h (leftR h now R) ∧ Tch ks w w' := by
  have RM := Lib.hid (remembers_any t hi h0 h1 now key)
  have FG := Lib.hid (fun u => forget_d t hi hR h0 h1 now u)
  clear t
  go_enter_defers Try.func13, Try.ntmps13
  go_wp2_with fail
  with_reducible refine (RM.out).mono ?_
  rintro e w' ⟨rfl, rfl⟩
  go_wp2_with fail
  refine leaves_cons (by simp) (f := 23) (args := #[ptr p, I now]) (by rfl) ?_
  refine (FG.out _).mono ?_
  rintro e u' w' ⟨rfl, rfl, h1, h2⟩
  exact ⟨_, results_tmp rfl _ _ _, rfl, h1, h2⟩
set_option maxHeartbeats 4000000 in
theorem len_any {ks : Nat → Prop} {w : World} {p : Nat} {h : Int} {R : List En} (t : TB ks w p h R) (hi : InvR h R) (hR : R.length ≤ 1000000) (h0 : 1 ≤ h) (h1 : h ≤ 1000000) (now : Int) :
    Calls Try.prog 17 #[ptr p, I now] w fun e w' => e = .returned (I (cntK (leftR h now R))) ∧ TB ks w' p h (leftR h now R) ∧ Tch ks w w' := by
  have FG := Lib.hid (forget_any t hi hR h0 h1 now)
  clear t
  go_enter Try.func17, Try.ntmps17
  go_wp2_with fail
  with_reducible refine (FG.out).mono ?_
  rintro e w1 ⟨rfl, t1, hT⟩
  have t1' := t1
  obtain ⟨v, mr, hp, -, hm, -⟩ := t1
  have c1 := cell_at hp 1
  simp only [List.getElem?_toArray, List.getElem?_cons_succ, List.getElem?_cons_zero] at c1
  have L := hm.run_len Try.underlying45 3
  replace t1' := Lib.hid t1'
  replace hT := Lib.hid hT
  clear hp hm FG
  go_wp2_with fail
  go_ret
  exact ⟨rfl, t1'.out, hT.out⟩
end Go.Proofs.Ytfpapfnpppggeaa.dedup
