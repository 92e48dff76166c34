/-
  The document's Drop, SameRow; Clamp.
-/
import Derived.Test.YtnmehmlenbbfbaaHdN
import Derived.BigQuiet
namespace Go.Proofs.Ytnmehmlenbbfbaa.heads
open Go.ChangeShapes Go.WideShapes Go.ChangeAt Go.RowKit
set_option linter.unusedVariables false
set_option linter.unusedSimpArgs false

theorem eq_hd (a b a' b' : ByteArray) (w : World) : (Op.equalIn 10000 49 (.agg #[.string a, .string b]) (.agg #[.string a', .string b'])).run Try.prog w = .ok (a.toList == a'.toList && b.toList == b'.toList) w := by
  by_cases h1 : a.toList = a'.toList
  · have e1 := beq_iff_eq.2 h1
    by_cases h2 : b.toList = b'.toList
    · have e2 := beq_iff_eq.2 h2
      go_simp
    · have e2 := beq_eq_false_iff_ne.2 h2
      go_simp
  · have e1 := beq_eq_false_iff_ne.2 h1
    go_simp

theorem hd_eq (a b a' b' : ByteArray) : (a.toList == a'.toList && b.toList == b'.toList) = decide ((⟨a, b⟩ : Hd) = ⟨a', b'⟩) := by
  rw [txt_eq, txt_eq]
  by_cases h1 : a = a' <;> by_cases h2 : b = b' <;> simp [h1, h2]
theorem take_same {A B : List Hd} {k : Nat} (hl : A.length = B.length) (h : A.take k = B.take k) (hk : k < A.length) (hx : A.getD k h0 = B.getD k h0) : A.take (k + 1) = B.take (k + 1) := by
  rw [List.take_succ_eq_append_getElem hk, List.take_succ_eq_append_getElem (by omega), h]
  rw [List.getD_eq_getElem?_getD, List.getElem?_eq_getElem hk, List.getD_eq_getElem?_getD, List.getElem?_eq_getElem (by omega)] at hx
  exact congrArg (fun z => B.take k ++ [z]) hx
theorem not_same {A B : List Hd} {k : Nat} (hx : A.getD k h0 ≠ B.getD k h0) : A ≠ B := fun h => hx (by rw [h])
set_option maxRecDepth 20000 in
set_option maxHeartbeats 4000000 in
theorem row_any (v : Value) (A : List Hd) (u : Value) (B : List Hd) (w : World) (hw : HeadsAt w v A) (hu : HeadsAt w u B) (hl : A.length ≤ 1000) (hm : B.length ≤ 1000) :
    Calls Try.prog 17 #[v, u] w fun e w' => e = .returned (.bool (decide (A = B))) ∧ Bl w w' := by
  obtain ⟨aa, ag, ao, ac, rfl, -, -, ar⟩ := hw
  obtain ⟨ba, bg, bo, bc, rfl, -, -, br⟩ := hu
  have RA := Lib.hid (fun w' (hb : Bl w w') i hi => (ar.bl hb).c hB_len h0 i hi)
  have RB := Lib.hid (fun w' (hb : Bl w w') i hi => (br.bl hb).c hB_len h0 i hi)
  clear ar br
  by_cases hlen : A.length = B.length
  · have e1 : ((A.length : Int) != (B.length : Int)) = false := by simp [hlen]
    have TS := fun k h1 h2 h3 => take_same (k := k) hlen h1 h2 h3
    have NS := fun k hx => not_same (A := A) (B := B) (k := k) hx
    have DN : A.take A.length = B.take A.length → A = B := fun h => by rw [List.take_length, hlen, List.take_length] at h; exact h
    have hll : ∀ k, k < A.length → k < B.length := fun k hk => by omega
    obtain ⟨D, hD⟩ : ∃ z_, (decide (A = B)) = z_ := ⟨_, rfl⟩
    have DT : A = B → D = true := fun h => by rw [← hD]; exact decide_eq_true h
    have DF : A ≠ B → D = false := fun h => by rw [← hD]; exact decide_eq_false h
    rw [hD]
    clear hlen hD
    replace TS := Lib.hid TS
    replace NS := Lib.hid NS
    replace DN := Lib.hid DN
    replace hll := Lib.hid hll
    replace DT := Lib.hid DT
    replace DF := Lib.hid DF
    go_enter Try.func17, Try.ntmps17
    go_wp2_with fail
    go_loopw [5] (fun i wr => ∃ k : Nat, k ≤ A.length ∧ i = I k ∧ A.take k = B.take k ∧ Bl w wr) (fun i _ => A.length - (intOf i).toNat)
    case atStart => exact ⟨0, by omega, rfl, by simp, Bl.rfl' _⟩
    case round =>
      obtain ⟨k, hk, rfl, hall, hbr⟩ := hrel
      by_cases hlt : k < A.length
      · obtain ⟨ha, hcc⟩ := RA.out _ hbr k hlt
        have hltB := hll.out k hlt
        obtain ⟨hb, hdd⟩ := RB.out _ hbr k hltB
        subst ha
        subst hb
        have c0 := hcc 0 (by decide)
        have c1 := hcc 1 (by decide)
        have d0 := hdd 0 (by decide)
        have d1 := hdd 1 (by decide)
        simp only [List.getElem?_cons_succ, List.getElem?_cons_zero, Nat.add_zero, ← Nat.add_assoc] at c0 c1 d0 d1
        have ts := TS.out k hall hlt
        have ns := NS.out k
        obtain ⟨x, hx⟩ : ∃ z_, (A.getD k h0) = z_ := ⟨_, rfl⟩
        rw [hx] at c0 c1 ts ns
        obtain ⟨z, hz⟩ : ∃ z_, (B.getD k h0) = z_ := ⟨_, rfl⟩
        rw [hz] at d0 d1 ts ns
        obtain ⟨n, u⟩ := x
        obtain ⟨n', u'⟩ := z
        simp only at c0 c1 d0 d1
        have EQ := fun w => eq_hd n u n' u' w
        have he := hd_eq n u n' u'
        rw [he] at EQ
        have wk : IntKind.i64.wrap ((k : Int) + 1) = ((k + 1 : Nat) : Int) := by rw [IntKind.wrap_i64]; omega
        clear hcc hdd hx hz hall he
        by_cases hh : (⟨n, u⟩ : Hd) = ⟨n', u'⟩
        · have hy := ts hh
          rw [decide_eq_true hh] at EQ
          clear ts ns hh
          replace hy := Lib.hid hy
          replace hbr := Lib.hid hbr
          go_wp2_with fail
          go_quiet (fail)
          have hbq := hbr.out.drn nq
          replace hbq := Lib.hid hbq
          go_wp2_with fail
          go_roundw
          case rel => exact ⟨k + 1, by omega, by first | rfl | go_num, hy.out, hbq.out⟩
          case measure => simp [intOf] <;> omega
        · have hy := DF.out (ns hh)
          rw [decide_eq_false hh] at EQ
          clear ts ns hh
          replace hy := Lib.hid hy
          replace hbr := Lib.hid hbr
          go_wp2_with fail
          go_quiet (fail)
          have hbq := hbr.out.drn nq
          replace hbq := Lib.hid hbq
          go_wp2_with fail
          go_ret
          exact ⟨by rw [hy.out]; rfl, hbq.out⟩
      · obtain rfl : k = A.length := by omega
        have hy := DT.out (DN.out hall)
        clear hall
        replace hy := Lib.hid hy
        replace hbr := Lib.hid hbr
        go_wp2_with fail
        go_ret
        exact ⟨by rw [hy.out]; rfl, hbr.out⟩
  · have e1 : ((A.length : Int) != (B.length : Int)) = true := by simp; omega
    have hy : decide (A = B) = false := decide_eq_false fun h => hlen (by rw [h])
    replace hy := Lib.hid hy
    go_enter Try.func17, Try.ntmps17
    go_wp2_with fail
    go_ret
    exact ⟨by rw [hy.out]; rfl, Bl.rfl' _⟩

set_option maxRecDepth 20000 in
set_option maxHeartbeats 4000000 in
theorem rdrop_any (v : Value) (A : List Hd) (u : Value) (N : List ByteArray) (w : World) (hw : HeadsAt w v A) (hu : TextsAt w u N) (hl : A.length ≤ 100) (hm : N.length ≤ 100) :
    Calls Try.prog 37 #[v, u] w fun e w' => ∃ x, e = .returned x ∧ OwnB hB 2 49 w' w.heap.size x (dropF A N) ∧ Bl w w' := by
  obtain ⟨iu, hiu, zu0, zu1, zu2⟩ := info_parts infoH
  obtain ⟨ba, bg, bo, bcap, rfl, b1, b2, br⟩ := hw
  have RC := Lib.hid (fun w' (hb : Bl w w') i hi => (br.bl hb).c hB_len h0 i hi)
  have CT := Lib.hid (fun s w' (hb : Bl w w') => hast_any u N s w' (hu.bl hb) (by omega))
  have DT := fun k h => drop_take A N k h
  clear br hu
  replace DT := Lib.hid DT
  go_enter Try.func37, Try.ntmps37
  go_wp2_with fail
  go_loopw [5, 6] (fun o i wr => ∃ k : Nat, k ≤ A.length ∧ i = I k ∧ OwnB hB 2 49 wr w.heap.size o (dropF (A.take k) N) ∧ Bl w wr) (fun _ i _ => A.length - (intOf i).toNat)
  case atStart => exact ⟨0, by omega, rfl, OwnB.nil _ _ _, Bl.rfl' _⟩
  case round =>
    obtain ⟨k, hk, rfl, hown, hbr⟩ := hrel
    by_cases hlt : k < A.length
    · obtain ⟨ha, hcc⟩ := RC.out _ hbr k hlt
      subst ha
      have c0 := hcc 0 (by decide)
      have c1 := hcc 1 (by decide)
      simp only [List.getElem?_cons_succ, List.getElem?_cons_zero, Nat.add_zero, ← Nat.add_assoc] at c0 c1
      have hst := DT.out k hlt
      have hln : (dropF (A.take k) N).length ≤ 100 := Nat.le_trans (dropF_len _ _) (by rw [List.length_take]; omega)
      obtain ⟨x, hx⟩ : ∃ z_, (A.getD k h0) = z_ := ⟨_, rfl⟩
      rw [hx] at c0 c1 hst
      obtain ⟨n, u'⟩ := x
      simp only at c0 c1 hst
      obtain ⟨O, hO⟩ : ∃ z_, (dropF (A.take k) N) = z_ := ⟨_, rfl⟩
      rw [hO] at hown hst hln
      have hbs := hbr.size
      have wk : IntKind.i64.wrap ((k : Int) + 1) = ((k + 1 : Nat) : Int) := by rw [IntKind.wrap_i64]; omega
      have C := CT.out n _ hbr
      obtain ⟨ra, rg, rcap, rfl, hrg, hrc, hrc2, hRR⟩ := OwnB.row hown (by decide)
      replace hown : wr.ownsRow w.heap.size 49 2 (.slice ra O.length rcap) O.length (flatB hB O) := hown
      obtain ⟨b, hbb⟩ : ∃ z_, (inT N n) = z_ := ⟨_, rfl⟩
      rw [hbb] at C hst
      clear hcc hx hO hRR hrg hbb
      cases b with
      | true =>
        rw [if_pos rfl, List.append_nil] at hst
        replace hst := Lib.hid hst
        replace hown := Lib.hid hown
        replace hbr := Lib.hid hbr
        replace C := Lib.hid C
        go_wp2_with fail
        with_reducible refine (C.out).mono ?_
        rintro e w' ⟨rfl, rfl⟩
        go_wp2_with fail
        go_roundw
        case rel => exact ⟨k + 1, by omega, by first | rfl | go_num, by rw [hst.out]; exact hown.out, hbr.out⟩
        case measure => simp [intOf] <;> omega
      | false =>
        rw [if_neg (by simp)] at hst
        replace hst := Lib.hid hst
        replace hown := Lib.hid hown
        replace hbr := Lib.hid hbr
        replace C := Lib.hid C
        go_wp2_with fail
        with_reducible refine (C.out).mono ?_
        rintro e w' ⟨rfl, rfl⟩
        go_wp2_with (at_builtin; refine wpList_append_row rfl _ _ 23 rfl w.heap.size 49 iu (.agg #[S ByteArray.empty, S ByteArray.empty]) 2 32 Try.underlying23 hiu zu0 zu1 zu2 rfl (by decide) _ O.length (flatB hB O) rfl hown.out #[S n, S u'] _ rfl (by intro u hu; simp at hu; rcases hu with rfl | rfl <;> rfl) 1 (by first | rfl | simp [Act.eval, Act.put]) (by omega) (by omega) (by omega) ?_)
        intro b' cap' w7 hown7 hgrow7
        have hb7 := hbr.out.grown hgrow7 (fun k hk => (hown.out.lt k hk).1)
        clear hgrow7
        replace hown7 := Lib.hid hown7
        replace hb7 := Lib.hid hb7
        go_wp2_with fail
        go_roundw
        case rel => exact ⟨k + 1, by omega, by first | rfl | go_num, by rw [hst.out]; unfold OwnB; rw [flatB_snoc, List.length_append]; exact hown7.out, hb7.out⟩
        case measure => simp [intOf] <;> omega
    · obtain rfl : k = A.length := by omega
      rw [List.take_length] at hown
      replace hown := Lib.hid hown
      replace hbr := Lib.hid hbr
      go_wp2_with fail
      go_ret
      exact ⟨_, rfl, hown.out, hbr.out⟩
end Go.Proofs.Ytnmehmlenbbfbaa.heads
