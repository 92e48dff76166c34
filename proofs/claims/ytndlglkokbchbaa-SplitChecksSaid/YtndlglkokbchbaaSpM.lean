/-
  Package split: the document's Check.
-/
import Derived.Test.YtndlglkokbchbaaSpF
import Derived.BigQuiet
namespace Go.Proofs.Ytndlglkokbchbaa.split
open Go.ChangeShapes Go.WideShapes Go.ChangeAt Go.RowKit
set_option linter.unusedVariables false
set_option linter.unusedSimpArgs false

set_option maxHeartbeats 8000000 in
theorem rcheck_any (v : Value) (R : List Pt) (w : World) (hv : PartsR w v R) : Calls Try.prog 15 #[v] w fun e w' => e = .returned (I (chkF R)) ∧ Bl w w' := by
  obtain ⟨a, g, o, cap, rfl, hr, hg, hcap, hcap2, hl, hi64⟩ := hv
  have RC := Lib.hid (fun w' (hb : Bl w w') i hi => (hr.bl hb).c i hi)
  clear hr hg
  have hhit := fun k e h1 h2 h3 => chk_hit (R := R) (k := k) (e := e) h1 h2 h3
  have hend0 := chk_end (R := R)
  obtain ⟨CF, hCF⟩ : ∃ z_, (chkF R) = z_ := ⟨_, rfl⟩
  simp only [hCF] at hhit hend0
  rw [hCF]
  clear hCF
  replace hi64 := Lib.hid hi64
  replace hhit := Lib.hid hhit
  replace hend0 := Lib.hid hend0
  go_enter Try.func15, Try.ntmps15
  go_wp2_with fail
  go_loopw [3, 4] (fun n i wr => ∃ k : Nat, k ≤ R.length ∧ i = I k ∧ n = I (ahd R k) ∧ chkTo R k = none ∧ Bl w wr) (fun _ i _ => R.length - (intOf i).toNat)
  case atStart => exact ⟨0, by omega, rfl, rfl, rfl, Bl.rfl' _⟩
  case round =>
    obtain ⟨k, hk, rfl, rfl, hck, hb⟩ := hrel
    by_cases hlt : k < R.length
    · obtain ⟨ha, hcc⟩ := RC.out _ hb k hlt
      subst ha
      have c0 := hcc 0 (by decide)
      have c1 := hcc 1 (by decide)
      simp only [List.getElem?_cons_succ, List.getElem?_cons_zero, Nat.add_zero, ← Nat.add_assoc] at c0 c1
      have hat : chkAt R k = if (R.getD k p0).s < 1 ∨ 10 < (R.getD k p0).s then some 13 else if twiceB R k (R.getD k p0).s = true then some 13 else if (R.getD k p0).w < 0 ∨ 100 < (R.getD k p0).w then some 12 else none := rfl
      have hah : ahd R (k + 1) = ahd R k + (R.getD k p0).w := rfl
      have hsum := chk_ahd hck
      have KK := fun w' (hb : Bl w w') => (RC.out w' hb k hlt).2
      obtain ⟨x, hx⟩ : ∃ z_, (R.getD k p0) = z_ := ⟨_, rfl⟩
      rw [hx] at c0 c1 hat hah
      simp only [hx] at KK
      obtain ⟨xs, xw⟩ := x
      simp only at hat hah
      have wt : IntKind.i64.wrap ((k : Int) + 1) = ((k + 1 : Nat) : Int) := by rw [IntKind.wrap_i64]; omega
      have hit := fun e h => hhit.out k e hck h hlt
      have next := chk_next (R := R) hck
      clear hcc hx
      replace hb := Lib.hid hb
      replace hit := Lib.hid hit
      replace next := Lib.hid next
      replace wt := Lib.hid wt
      replace hah := Lib.hid hah
      replace KK := Lib.hid KK
      by_cases h1 : xs < 1
      · have d1 : decide (xs < 1) = true := decide_eq_true h1
        rw [if_pos (Or.inl h1)] at hat
        have hf := hit.out _ hat
        subst hf
        clear hat
        go_wp2_with fail
        go_ret
        exact ⟨rfl, hb.out⟩
      · have d1 : decide (xs < 1) = false := decide_eq_false h1
        by_cases h2 : 10 < xs
        · have d2 : decide (xs > 10) = true := decide_eq_true h2
          rw [if_pos (Or.inr h2)] at hat
          have hf := hit.out _ hat
          subst hf
          clear hat
          go_wp2_with fail
          go_ret
          exact ⟨rfl, hb.out⟩
        · have d2 : decide (xs > 10) = false := decide_eq_false h2
          rw [if_neg (fun h => h.elim h1 h2)] at hat
          replace hat := Lib.hid hat
          go_wp2_with fail
          go_loopw [5] (fun j wr => ∃ i : Nat, i ≤ k ∧ j = I i ∧ twiceB R i xs = false ∧ Bl w wr) (fun j _ => k - (intOf j).toNat)
          case atStart => exact ⟨0, by omega, rfl, rfl, hb.out⟩
          case round =>
            obtain ⟨i, hi, rfl, hT, hbi⟩ := hrel
            clear hb
            by_cases hlti : i < k
            · obtain ⟨-, hcc⟩ := RC.out _ hbi i (by omega)
              have e0 := hcc 0 (by decide)
              simp only [List.getElem?_cons_zero, Nat.add_zero, ← Nat.add_assoc] at e0
              have g0 := KK.out _ hbi 0 (by decide)
              simp only [List.getElem?_cons_zero, Nat.add_zero, ← Nat.add_assoc] at g0
              have hsi := twice_succ R i xs (by omega)
              rw [hT, Bool.false_or] at hsi
              have hyes := fun h => twice_yes (R := R) (s := xs) (k := i + 1) (m := k) h (by omega)
              have wi : IntKind.i64.wrap ((i : Int) + 1) = ((i + 1 : Nat) : Int) := by rw [IntKind.wrap_i64]; omega
              obtain ⟨y, hy⟩ : ∃ z_, (R.getD i p0) = z_ := ⟨_, rfl⟩
              rw [hy] at e0 hsi
              obtain ⟨ys, yw⟩ := y
              simp only at hsi
              clear hcc hy c0 c1
              replace hbi := Lib.hid hbi
              replace hyes := Lib.hid hyes
              by_cases he : ys = xs
              · subst he
                have hbe : (ys == ys) = true := by simp
                rw [hbe] at hsi
                replace hat := hat.out
                rw [if_pos (hyes.out hsi)] at hat
                have hf := hit.out _ hat
                subst hf
                clear hat hsi
                go_wp2_with fail
                go_quiet (fail)
                go_wp2_with fail
                go_ret
                exact ⟨rfl, hbi.out.drn _⟩
              · have hbe : (ys == xs) = false := beq_eq_false_iff_ne.2 he
                rw [hbe] at hsi
                clear he
                replace hsi := Lib.hid hsi
                go_wp2_with fail
                go_quiet (fail)
                go_wp2_with fail
                go_roundw
                case rel => exact ⟨i + 1, by omega, by first | rfl | go_num, hsi.out, hbi.out.drn _⟩
                case measure => simp [intOf] <;> omega
            · obtain rfl : i = k := by omega
              have g1 := KK.out _ hbi 1 (by decide)
              simp only [List.getElem?_cons_succ, List.getElem?_cons_zero, Nat.add_zero, ← Nat.add_assoc] at g1
              replace hat := hat.out
              rw [if_neg (by rw [hT]; decide)] at hat
              replace hbi := Lib.hid hbi
              by_cases h3 : xw < 0
              · have d3 : decide (xw < 0) = true := decide_eq_true h3
                rw [if_pos (Or.inl h3)] at hat
                have hf := hit.out _ hat
                subst hf
                clear hat
                go_wp2_with fail
                go_ret
                exact ⟨rfl, hbi.out⟩
              · have d3 : decide (xw < 0) = false := decide_eq_false h3
                by_cases h4 : 100 < xw
                · have d4 : decide (xw > 100) = true := decide_eq_true h4
                  rw [if_pos (Or.inr h4)] at hat
                  have hf := hit.out _ hat
                  subst hf
                  clear hat
                  go_wp2_with fail
                  go_ret
                  exact ⟨rfl, hbi.out⟩
                · have d4 : decide (xw > 100) = false := decide_eq_false h4
                  rw [if_neg (fun h => h.elim h3 h4)] at hat
                  have hn := Lib.hid (next.out hat)
                  have ww : IntKind.i64.wrap (ahd R i + xw) = ahd R i + xw := by rw [IntKind.wrap_i64]; omega
                  clear hat
                  replace wt := wt.out
                  go_wp2_with fail
                  go_roundw
                  case rel => exact ⟨i + 1, by omega, by first | rfl | go_num, by rw [hah.out], hn.out, hbi.out⟩
                  case measure => simp [intOf] <;> omega
    · obtain rfl : k = R.length := by omega
      have hend := hend0.out hck
      obtain ⟨m, hm⟩ : ∃ z_, (ahd R R.length) = z_ := ⟨_, rfl⟩
      rw [hm] at hend
      replace hb := Lib.hid hb
      replace hend := Lib.hid hend
      by_cases h0 : m = 0
      · have hbe : (m == 0) = true := by simp [h0]
        replace hend := hend.out
        rw [if_pos h0] at hend
        subst hend
        rw [hm]
        clear h0
        go_wp2_with fail
        go_ret
        exact ⟨rfl, hb.out⟩
      · have hbe : (m == 0) = false := beq_eq_false_iff_ne.2 h0
        replace hend := hend.out
        rw [if_neg h0] at hend
        subst hend
        rw [hm]
        clear h0
        go_wp2_with fail
        go_ret
        exact ⟨rfl, hb.out⟩
end Go.Proofs.Ytndlglkokbchbaa.split
