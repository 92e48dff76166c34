/-
  Package split: Check; the document's.
-/
import Derived.Test.YtndlglkokbchbaaSpE
namespace Go.Proofs.Ytndlglkokbchbaa.split
open Go.ChangeShapes Go.WideShapes Go.ChangeAt Go.RowKit Go.Shelf
set_option linter.unusedVariables false
set_option linter.unusedSimpArgs false

/-- A slice of any parts. -/
def PartsR (w : World) (v : Value) (R : List Pt) : Prop := ∃ a g o cap, v = .slice a R.length cap ∧ RowZ w g o a R ∧ (R = [] ∨ g < w.heap.size) ∧ R.length ≤ cap ∧ cap ≤ 9223372036854775807 ∧ R.length ≤ 1000 ∧ ∀ x ∈ R, (-9223372036854775808 ≤ x.s ∧ x.s ≤ 9223372036854775807) ∧ (-9223372036854775808 ≤ x.w ∧ x.w ≤ 9223372036854775807)
theorem PartsR.bl {w w' : World} {v : Value} {R : List Pt} (h : PartsR w v R) (hb : Bl w w') : PartsR w' v R := by
  obtain ⟨a, g, o, cap, h1, h2, h3, h4⟩ := h
  exact ⟨a, g, o, cap, h1, h2.bl hb, h3.imp id (fun h => Nat.lt_of_lt_of_le h hb.size), h4⟩
theorem PartsR.ok {w : World} {v : Value} {R : List Pt} (h : PartsR w v R) (hR : okP R) : PartsAt w v R := by
  obtain ⟨a, g, o, cap, h1, h2, h3, h4⟩ := h
  exact ⟨a, g, o, cap, h1, h2, h3, hR⟩
/-- How the i-th part is wrong. -/
def chkAt (R : List Pt) (i : Nat) : Option Int :=
  if (R.getD i p0).s < 1 ∨ 10 < (R.getD i p0).s then some 13 else if twiceB R i (R.getD i p0).s = true then some 13 else if (R.getD i p0).w < 0 ∨ 100 < (R.getD i p0).w then some 12 else none
def chkTo (R : List Pt) : Nat → Option Int
  | 0 => none
  | n + 1 => match chkTo R n with
    | some e => some e
    | none => chkAt R n
def chkF (R : List Pt) : Int := match chkTo R R.length with
  | some e => e
  | none => if ahd R R.length = 0 then 12 else 0
theorem chk_stay {R : List Pt} {e : Int} : ∀ {k n : Nat}, chkTo R k = some e → k ≤ n → chkTo R n = some e := by
  intro k n h hk
  induction n with
  | zero => obtain rfl : k = 0 := by omega
            exact h
  | succ n ih =>
    by_cases hh : k = n + 1
    · subst hh; exact h
    · have := ih (by omega)
      unfold chkTo
      rw [this]
theorem chk_hit {R : List Pt} {e : Int} {k : Nat} (h : chkTo R k = none) (he : chkAt R k = some e) (hk : k < R.length) : chkF R = e := by
  have h1 : chkTo R (k + 1) = some e := by unfold chkTo; rw [h]; exact he
  unfold chkF
  rw [chk_stay h1 hk]
theorem chk_next {R : List Pt} {k : Nat} (h : chkTo R k = none) (he : chkAt R k = none) : chkTo R (k + 1) = none := by
  unfold chkTo; rw [h]; exact he
theorem chk_below {R : List Pt} : ∀ {n : Nat}, chkTo R n = none → ∀ i, i < n → chkAt R i = none := by
  intro n
  induction n with
  | zero => intro _ i hi; omega
  | succ n ih =>
    intro h i hi
    unfold chkTo at h
    cases hc : chkTo R n with
    | some e => rw [hc] at h; cases h
    | none =>
      rw [hc] at h
      by_cases hh : i = n
      · subst hh; exact h
      · exact ih hc i (by omega)
theorem chkAt_none {R : List Pt} {i : Nat} (h : chkAt R i = none) : (1 ≤ (R.getD i p0).s ∧ (R.getD i p0).s ≤ 10) ∧ twiceB R i (R.getD i p0).s = false ∧ (0 ≤ (R.getD i p0).w ∧ (R.getD i p0).w ≤ 100) := by
  unfold chkAt at h
  split at h
  · cases h
  · rename_i h1
    split at h
    · cases h
    · rename_i h2
      split at h
      · cases h
      · rename_i h3
        exact ⟨by omega, by simpa using h2, by omega⟩
theorem chk_okP {R : List Pt} (h : chkTo R R.length = none) (hl : R.length ≤ 1000) : okP R := by
  refine ⟨fun x hx => ?_, hl⟩
  obtain ⟨i, hi, rfl⟩ := List.mem_iff_getElem.1 hx
  have := (chkAt_none (chk_below h i hi)).2.2
  rw [List.getD, List.getElem?_eq_getElem hi] at this
  simp only [Option.getD_some] at this
  omega
theorem chk_ahd {R : List Pt} : ∀ {n : Nat}, chkTo R n = none → 0 ≤ ahd R n ∧ ahd R n ≤ 100 * n := by
  intro n
  induction n with
  | zero => intro _; simp [ahd]
  | succ n ih =>
    intro h
    have h1 := (chkAt_none (chk_below h n (by omega))).2.2
    have h2 : chkTo R n = none := by
      unfold chkTo at h
      cases hc : chkTo R n with
      | some e => rw [hc] at h; cases h
      | none => rfl
    have h3 := ih h2
    simp only [ahd]
    omega
theorem chk_end {R : List Pt} (h : chkTo R R.length = none) : chkF R = if ahd R R.length = 0 then 12 else 0 := by
  unfold chkF
  rw [h]

set_option maxHeartbeats 8000000 in
theorem check_any (v : Value) (R : List Pt) (w : World) (hv : PartsR w v R) : Calls Try.prog 11 #[v] w fun e w' => e = .returned (I (chkF R)) ∧ Bl w w' := by
  have SM := Lib.hid (fun w' (hb : Bl w w') hR => sum_any v R w' ((hv.bl hb).ok hR))
  obtain ⟨a, g, o, cap, rfl, hr, hg, hcap, hcap2, hl, hi64⟩ := hv
  have CN := Lib.hid (fun w' (hb : Bl w w') k hk p y hy => contains_any R k hk hl cap g o a p y w' (hr.bl hb) hy)
  have RC := Lib.hid (fun w' (hb : Bl w w') i hi => (hr.bl hb).c i hi)
  have hhit := fun k e h1 h2 h3 => chk_hit (R := R) (k := k) (e := e) h1 h2 h3
  have hend0 := chk_end (R := R)
  obtain ⟨CF, hCF⟩ : ∃ z_, (chkF R) = z_ := ⟨_, rfl⟩
  simp only [hCF] at hhit hend0
  rw [hCF]
  clear hr hCF
  replace hi64 := Lib.hid hi64
  replace hhit := Lib.hid hhit
  replace hend0 := Lib.hid hend0
  go_enter Try.func11, Try.ntmps11
  go_wp2_with fail
  go_loopw [3, 7] (fun j i wr => ∃ k : Nat, k ≤ R.length ∧ i = I k ∧ chkTo R k = none ∧ Bl w wr) (fun _ i _ => R.length - (intOf i).toNat)
  case atStart => exact ⟨0, by omega, rfl, rfl, Bl.rfl' _⟩
  case round =>
    obtain ⟨k, hk, rfl, hck, hb⟩ := hrel
    by_cases hlt : k < R.length
    · obtain ⟨ha, hcc⟩ := RC.out _ hb k hlt
      subst ha
      have c0 := hcc 0 (by decide)
      have c1 := hcc 1 (by decide)
      simp only [List.getElem?_cons_succ, List.getElem?_cons_zero, Nat.add_zero, ← Nat.add_assoc] at c0 c1
      have hat : chkAt R k = if (R.getD k p0).s < 1 ∨ 10 < (R.getD k p0).s then some 13 else if twiceB R k (R.getD k p0).s = true then some 13 else if (R.getD k p0).w < 0 ∨ 100 < (R.getD k p0).w then some 12 else none := rfl
      have CNk := CN.out _ (hb.al (oP (R.getD k p0))) k (by omega) (R.getD k p0) wr.heap.size (heap_alloc_new wr _)
      obtain ⟨x, hx⟩ : ∃ z_, (R.getD k p0) = z_ := ⟨_, rfl⟩
      rw [hx] at c0 c1 hat CNk
      obtain ⟨xs, xw⟩ := x
      simp only at hat CNk
      obtain ⟨T, hT⟩ : ∃ z_, (twiceB R k xs) = z_ := ⟨_, rfl⟩
      rw [hT] at hat CNk
      have wt : IntKind.i64.wrap ((k : Int) + 1) = ((k + 1 : Nat) : Int) := by rw [IntKind.wrap_i64]; omega
      have hba := hb.al (oP ⟨xs, xw⟩)
      have hit := fun e h => hhit.out k e hck h hlt
      have next := chk_next (R := R) hck
      clear hcc hx hT CN RC SM
      replace CNk := Lib.hid CNk
      replace hba := Lib.hid hba
      replace hit := Lib.hid hit
      replace next := Lib.hid next
      replace wt := Lib.hid wt
      by_cases h1 : xs < 1
      · have d1 : decide (xs < 1) = true := decide_eq_true h1
        rw [if_pos (Or.inl h1)] at hat
        have hf := hit.out _ hat
        subst hf
        clear hat
        go_wp2_with fail
        go_ret
        exact ⟨rfl, hba.out⟩
      · have d1 : decide (xs < 1) = false := decide_eq_false h1
        by_cases h2 : 10 < xs
        · have d2 : decide (xs > 10) = true := decide_eq_true h2
          rw [if_pos (Or.inr h2)] at hat
          have hf := hit.out _ hat
          subst hf
          clear hat
          go_wp2_with fail
          go_ret
          exact ⟨rfl, hba.out⟩
        · have d2 : decide (xs > 10) = false := decide_eq_false h2
          rw [if_neg (fun h => h.elim h1 h2)] at hat
          cases T with
          | true =>
            rw [if_pos rfl] at hat
            have hf := hit.out _ hat
            subst hf
            clear hat
            go_wp2_with fail
            with_reducible refine (CNk.out).mono ?_
            rintro e w2 ⟨rfl, hb2⟩
            have hb3 := hba.out.tr hb2
            replace hb2 := Lib.hid hb2
            replace hb3 := Lib.hid hb3
            go_wp2_with fail
            go_ret
            exact ⟨rfl, hb3.out⟩
          | false =>
            rw [if_neg (by decide)] at hat
            replace hat := Lib.hid hat
            go_wp2_with fail
            with_reducible refine (CNk.out).mono ?_
            rintro e w2 ⟨rfl, hb2⟩
            have hb3 := hba.out.tr hb2
            obtain ⟨e0, e1⟩ := two (blk_bl (heap_alloc_new wr (oP ⟨xs, xw⟩)) hb2)
            replace hb2 := Lib.hid hb2
            replace hb3 := Lib.hid hb3
            replace hat := hat.out
            by_cases h3 : xw < 0
            · have d3 : decide (xw < 0) = true := decide_eq_true h3
              rw [if_pos (Or.inl h3)] at hat
              have hf := hit.out _ hat
              subst hf
              clear hat
              go_wp2_with fail
              go_ret
              exact ⟨rfl, hb3.out⟩
            · have d3 : decide (xw < 0) = false := decide_eq_false h3
              by_cases h4 : 100 < xw
              · have d4 : decide (xw > 100) = true := decide_eq_true h4
                rw [if_pos (Or.inr h4)] at hat
                have hf := hit.out _ hat
                subst hf
                clear hat
                go_wp2_with fail
                go_ret
                exact ⟨rfl, hb3.out⟩
              · have d4 : decide (xw > 100) = false := decide_eq_false h4
                rw [if_neg (fun h => h.elim h3 h4)] at hat
                have hn := Lib.hid (next.out hat)
                clear hat
                replace wt := wt.out
                go_wp2_with fail
                go_roundw
                case rel => exact ⟨k + 1, by omega, by first | rfl | go_num, hn.out, hb3.out⟩
                case measure => simp [intOf] <;> omega
    · obtain rfl : k = R.length := by omega
      have hR := chk_okP hck hl
      have hend := hend0.out hck
      have S := SM.out _ hb hR
      obtain ⟨m, hm⟩ : ∃ z_, (ahd R R.length) = z_ := ⟨_, rfl⟩
      rw [hm] at S hend
      replace S := Lib.hid S
      replace hb := Lib.hid hb
      replace hend := Lib.hid hend
      go_wp2_with fail
      with_reducible refine (S.out).mono ?_
      rintro e w2 ⟨rfl, hb2⟩
      replace hend := hend.out
      have hb3 := hb.out.tr hb2
      by_cases h0 : m = 0
      · have hbe : (m == 0) = true := by simp [h0]
        rw [if_pos h0] at hend
        subst hend
        replace hb2 := Lib.hid hb2
        replace hb3 := Lib.hid hb3
        go_wp2_with fail
        go_ret
        exact ⟨rfl, hb3.out⟩
      · have hbe : (m == 0) = false := beq_eq_false_iff_ne.2 h0
        rw [if_neg h0] at hend
        subst hend
        replace hb2 := Lib.hid hb2
        replace hb3 := Lib.hid hb3
        go_wp2_with fail
        go_ret
        exact ⟨rfl, hb3.out⟩
end Go.Proofs.Ytndlglkokbchbaa.split
