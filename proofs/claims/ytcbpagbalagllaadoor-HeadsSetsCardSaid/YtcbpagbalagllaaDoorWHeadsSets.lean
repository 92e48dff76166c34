/-
  HeadsSets is true for every input: what was set is got, unless there was no room; other names are as they were; set again it changes nothing; what may be still may be. No condition.
-/
import Derived.Test.YtcbpagbalagllaaDoorHdO
import Derived.Test.YtcbpagbalagllaaDoorHdH
import Derived.Test.YtcbpagbalagllaaDoorHdI
namespace Go.Proofs.YtcbpagbalagllaaDoor.headsSets
open Go.ChangeShapes Go.WideShapes Go.ChangeAt Go.RowKit
open Go.Proofs.YtcbpagbalagllaaDoor.heads
set_option linter.unusedVariables false
set_option linter.unusedSimpArgs false

theorem lit1 (w : World) (x : Hd) : HeadsAt (w.alloc (oH x)) (.slice (some ⟨w.heap.size, 0, none⟩) 1 1) [x] := heads_lit w [x] (by simp)
theorem find_rep (h : Hd) : ∀ A : List Hd, (A.map (rep h)).find? (isN h.n) = if A.any (isN h.n) = true then some h else none
  | [] => rfl
  | x :: A => by
    rw [List.map_cons, List.find?_cons, List.any_cons]
    by_cases hx : x.n = h.n
    · have e1 : rep h x = h := by unfold rep; rw [if_pos hx]
      rw [e1, show isN h.n h = true from decide_eq_true rfl, show isN h.n x = true from decide_eq_true hx]
      rfl
    · have e1 : rep h x = x := by unfold rep; rw [if_neg hx]
      rw [e1, show isN h.n x = false from decide_eq_false hx, Bool.false_or]
      exact find_rep h A
theorem find_other {h : Hd} {s : ByteArray} (hs : s ≠ h.n) : ∀ A : List Hd, (A.map (rep h)).find? (isN s) = A.find? (isN s)
  | [] => rfl
  | x :: A => by
    rw [List.map_cons, List.find?_cons, List.find?_cons]
    by_cases hx : x.n = h.n
    · have e1 : rep h x = h := by unfold rep; rw [if_pos hx]
      rw [e1, show isN s h = false from decide_eq_false (fun e => hs e.symm), show isN s x = false from decide_eq_false (fun e => hs (by rw [← e, hx]))]
      exact find_other hs A
    · have e1 : rep h x = x := by unfold rep; rw [if_neg hx]
      rw [e1]
      cases isN s x with
      | true => rfl
      | false => exact find_other hs A
theorem get_none {A : List Hd} {s : ByteArray} (h : ¬ A.any (isN s) = true) : getH A s = none := by
  unfold getH
  rw [List.find?_eq_none]
  intro x hx hc
  exact h (List.any_eq_true.2 ⟨x, hx, hc⟩)
theorem get_some {A : List Hd} {s : ByteArray} (h : A.any (isN s) = true) : ∃ z, getH A s = some z := by
  unfold getH
  cases hf : A.find? (isN s) with
  | some z => exact ⟨z, rfl⟩
  | none =>
    rw [List.find?_eq_none] at hf
    obtain ⟨x, hx, hc⟩ := List.any_eq_true.1 h
    exact absurd hc (hf x hx)
theorem get_set {A : List Hd} {h : Hd} : getH (set1R A h) h.n = if A.any (isN h.n) = true ∨ A.length < 8 then some h else none := by
  unfold set1R
  by_cases ha : A.any (isN h.n) = true
  · rw [if_pos ha, if_pos (Or.inl ha)]
    unfold getH
    rw [find_rep, if_pos ha]
  · rw [if_neg ha]
    by_cases hl : A.length < 8
    · rw [if_pos hl, if_pos (Or.inr hl)]
      have hn := get_none ha
      unfold getH at hn ⊢
      rw [List.find?_append, hn]
      simp
    · rw [if_neg hl, if_neg (fun hc => hc.elim ha hl)]
      exact get_none ha
theorem get_other {A : List Hd} {h : Hd} {s : ByteArray} (hs : s ≠ h.n) : getH (set1R A h) s = getH A s := by
  unfold set1R getH
  split
  · exact find_other hs A
  · split
    · rw [List.find?_append]
      have : [h].find? (isN s) = none := by
        rw [List.find?_cons, show isN s h = false from decide_eq_false (fun e => hs e.symm)]; rfl
      rw [this, Option.or_none]
    · rfl
theorem set_again (A : List Hd) (h : Hd) : set1R (set1R A h) h = set1R A h := by
  by_cases ha : A.any (isN h.n) = true
  · have e : set1R A h = A.map (rep h) := by unfold set1R; rw [if_pos ha]
    rw [e]
    have hb : (A.map (rep h)).any (isN h.n) = true := any_names.2 (by rw [rep_names]; exact any_names.1 ha)
    unfold set1R
    rw [if_pos hb, List.map_map]
    refine List.map_congr_left fun x _ => ?_
    show rep h (rep h x) = rep h x
    unfold rep
    by_cases hx : x.n = h.n
    · rw [if_pos hx, if_pos rfl]
    · rw [if_neg hx, if_neg hx]
  · by_cases hl : A.length < 8
    · have e : set1R A h = A ++ [h] := by unfold set1R; rw [if_neg ha, if_pos hl]
      rw [e]
      have hb : (A ++ [h]).any (isN h.n) = true := any_names.2 (by simp)
      unfold set1R
      have hr : A.map (rep h) = A := rep_no (by simpa using ha)
      rw [if_pos hb, List.map_append, hr]
      have : rep h h = h := by unfold rep; rw [if_pos rfl]
      rw [List.map_cons, List.map_nil, this]
    · have e : set1R A h = A := by unfold set1R; rw [if_neg ha, if_neg hl]
      rw [e, e]

set_option maxRecDepth 20000 in
set_option maxHeartbeats 16000000 in
theorem walk {w : World} (v0 : Value) (z0 : List Int) (hv0 : IntsAt w v0 z0) (hz0 : i64ok z0) (hm0 : z0.length ≤ maxLen) (a1 : Int) (l1 : -9223372036854775808 ≤ a1) (u1 : a1 ≤ 9223372036854775807) (a2 : Int) (l2 : -9223372036854775808 ≤ a2) (u2 : a2 ≤ 9223372036854775807) :
    Calls Tryd.prog 7 #[v0, I a1, I a2] w fun e w' => e = .returned (.bool true) ∧ Bl w w' := by
  have HM := Lib.hid (heads_mk z0 v0 w hv0 hz0 hm0)
  have LV := Lib.hid lives_any
  have O1 := Lib.hid (fun w => one_any a1 w l1 u1)
  have O2 := Lib.hid (fun w => one_any a2 w l2 u2)
  have okA := ok_heads z0 (min z0.length 12)
  have m1 := may_one a1
  obtain ⟨o, ho⟩ : ∃ z_, (oneF a1) = z_ := ⟨_, rfl⟩
  rw [ho] at O1 m1
  obtain ⟨on, ou⟩ := o
  obtain ⟨q, hq⟩ : ∃ z_, (oneF a2) = z_ := ⟨_, rfl⟩
  rw [hq] at O2
  obtain ⟨om, oq⟩ := q
  obtain ⟨A, hA⟩ : ∃ z_, (headsF z0 (min z0.length 12)) = z_ := ⟨_, rfl⟩
  rw [hA] at HM okA
  clear hv0 hz0 hm0 l1 u1 l2 u2 ho hq hA
  go_enter Tryd.func7, Tryd.ntmps7
  go_wp2_with fail
  with_reducible refine (HM.out).mono ?_
  rintro e w1 ⟨va, rfl, hOA, hb1⟩
  have hHA := heads_own hOA
  obtain ⟨aa, ag, ao, ac, rfl, har⟩ := hHA
  replace hHA : HeadsAt w1 (.slice aa A.length ac) A := ⟨aa, ag, ao, ac, rfl, har⟩
  have lA := okA.len
  clear HM hOA har
  replace hb1 := Lib.hid hb1
  replace hHA := Lib.hid hHA
  replace okA := Lib.hid okA
  go_wp2_with fail
  with_reducible refine (O1.out _).mono ?_
  rintro e w2 ⟨rfl, hn⟩
  have hb2 := hb1.out.tr hn
  have hA2 := hHA.out.bl hn
  have hY := heap_alloc_new w2 (oH ⟨on, ou⟩)
  have hal := (Bl.rfl' w2).al (oH ⟨on, ou⟩)
  obtain ⟨y, hy⟩ : ∃ y, w2.heap.size = y := ⟨_, rfl⟩
  rw [hy] at hY
  obtain ⟨W3, hW3⟩ : ∃ X, w2.alloc (oH ⟨on, ou⟩) = X := ⟨_, rfl⟩
  have hW3' : w2.alloc (.cells #[.string on, .string ou] 25) = W3 := hW3
  rw [hW3] at hY hal
  have hb3 := hb2.tr hal
  have hA3 := hA2.bl hal
  have hff := field_n om oq
  clear hn hb1 hb2 hHA hA2 hW3 hal
  replace hb3 := Lib.hid hb3
  replace hA3 := Lib.hid hA3
  replace hY := Lib.hid hY
  go_wp2_with fail
  with_reducible refine (O2.out _).mono ?_
  rintro e w4 ⟨rfl, hn⟩
  have hb4 := hb3.out.tr hn
  have hA4 := hA3.out.bl hn
  have hY4 := blk_bl hY.out hn
  have y0 := cell_at hY4 0
  have y1 := cell_at hY4 1
  simp only [List.getElem?_toArray, List.getElem?_cons_succ, List.getElem?_cons_zero] at y0 y1
  have hlit := lit1 w4 ⟨on, ou⟩
  have hal := (Bl.rfl' w4).al (oH ⟨on, ou⟩)
  have ST := set_any _ A _ [⟨on, ou⟩] _ (hA4.bl hal) hlit (by omega) (by simp)
  have hsame : setP A [⟨on, ou⟩] = set1R A ⟨on, ou⟩ := set1_same okA.out.two ⟨on, ou⟩
  rw [hsame] at ST
  have hgs := get_set (A := A) (h := ⟨on, ou⟩)
  have hOther := fun (hs : om ≠ on) => get_other (A := A) (h := ⟨on, ou⟩) (s := om) hs
  have hAgain := set_again A ⟨on, ou⟩
  have hOkB := okA.out.set m1
  obtain ⟨B, hB⟩ : ∃ z_, (set1R A ⟨on, ou⟩) = z_ := ⟨_, rfl⟩
  rw [hB] at ST hgs hAgain hOkB
  simp only [hB] at hOther
  have lB := hOkB.len
  have hb5 := hb4.tr hal
  have hA5 := hA4.bl hal
  have hY5 := blk_bl hY4 hal
  clear hn hb3 hb4 hA3 hA4 hY hY4 hlit hal hsame hB m1
  replace ST := Lib.hid ST
  replace hb5 := Lib.hid hb5
  replace hA5 := Lib.hid hA5
  replace hY5 := Lib.hid hY5
  replace hgs := Lib.hid hgs
  replace hOther := Lib.hid hOther
  replace hAgain := Lib.hid hAgain
  replace hOkB := Lib.hid hOkB
  go_wp2_with fail
  with_reducible refine (ST.out).mono ?_
  rintro e w6 ⟨xb, rfl, hxb, hn⟩
  have hB6 := heads_own hxb
  obtain ⟨ba, bg, bo, bc, rfl, hbr⟩ := hB6
  replace hB6 : HeadsAt w6 (.slice ba B.length bc) B := ⟨ba, bg, bo, bc, rfl, hbr⟩
  have hA6 := hA5.out.bl hn
  have hY6 := blk_bl hY5.out hn
  have hbz := hb5.out.tr hn
  have y0 := cell_at hY6 0
  have y1 := cell_at hY6 1
  simp only [List.getElem?_toArray, List.getElem?_cons_succ, List.getElem?_cons_zero] at y0 y1
  have HY := Lib.hid (fun w' (hb : Bl w6 w') => blk_bl hY6 hb)
  have HB := Lib.hid (fun w' (hb : Bl w6 w') => hB6.bl hb)
  have GA := Lib.hid (fun s w' (hb : Bl w6 w') => get_any _ A s w' (hA6.bl hb) (by omega))
  have GB := Lib.hid (fun s w' (hb : Bl w6 w') => get_any _ B s w' (hB6.bl hb) (by omega))
  have CK := Lib.hid (fun w' (hb : Bl w6 w') => check_any _ B w' (hB6.bl hb) (by omega) hOkB.out.fit)
  rw [hOkB.out.check] at CK
  have hq2 := Bl.rfl' w6
  have g1 := fun w' hb => GB.out on w' hb
  have g2 := fun w' hb => GA.out on w' hb
  have gB : getV B on = (match getH B on with | some x => .tuple #[S x.v, .bool true] | none => .tuple #[S ByteArray.empty, .bool false]) := rfl
  have gA : getV A on = (match getH A on with | some x => .tuple #[S x.v, .bool true] | none => .tuple #[S ByteArray.empty, .bool false]) := rfl
  rw [show getH B on = _ from hgs.out] at gB
  clear hxb hbr hB6 hA6 hY6 hn hb5 hA5 hY5 ST hgs
  replace hbz := Lib.hid hbz
  replace hq2 := Lib.hid hq2
  by_cases ha : A.any (isN on) = true
  · obtain ⟨z, hz⟩ := get_some ha
    rw [if_pos (Or.inl ha)] at gB
    rw [hz] at gA
    simp only at gA gB
    obtain ⟨zn, zv⟩ := z
    simp only at gA
    rw [gB] at g1
    rw [gA] at g2
    clear ha hz gA gB
    replace g1 := Lib.hid g1
    replace g2 := Lib.hid g2
    go_wp2_with fail
    with_reducible refine (g1.out _ hq2.out).mono ?_
    rintro e we ⟨rfl, hn⟩
    have hz1 := hbz.out.tr hn
    have hq21 := hq2.out.tr hn
    clear hbz hq2 hn
    have hbz := Lib.hid hz1; have hq2 := Lib.hid hq21
    clear hz1 hq21
    have y0 := cell_at (HY.out _ hq2.out) 0
    simp only [List.getElem?_toArray, List.getElem?_cons_succ, List.getElem?_cons_zero] at y0
    go_wp2_with fail
    with_reducible refine (g2.out _ hq2.out).mono ?_
    rintro e wf ⟨rfl, hn⟩
    have hz1 := hbz.out.tr hn
    have hq21 := hq2.out.tr hn
    clear hbz hq2 hn
    have hbz := Lib.hid hz1; have hq2 := Lib.hid hq21
    clear hz1 hq21
    have y0 := cell_at (HY.out _ hq2.out) 0
    have y1 := cell_at (HY.out _ hq2.out) 1
    simp only [List.getElem?_toArray, List.getElem?_cons_succ, List.getElem?_cons_zero] at y0 y1
    have dB8 : decide ((B.length : Int) ≤ 8) = true := decide_eq_true (by omega)
    by_cases hoo : om = on
    · have ne1 : (om.toList != on.toList) = false := by rw [txt_ne, decide_eq_true hoo]; rfl
      have ne2 : (om.toList == on.toList) = true := by rw [txt_eq, decide_eq_true hoo]
      clear hoo
      have CKq := CK.out _ hq2.out
      replace CKq := Lib.hid CKq
      go_wp2_with fail
      with_reducible refine (CKq.out).mono ?_
      rintro e wg ⟨rfl, hn⟩
      have hz1 := hbz.out.tr hn
      have hq21 := hq2.out.tr hn
      clear hbz hq2 hn
      have hbz := Lib.hid hz1; have hq2 := Lib.hid hq21
      clear hz1 hq21
      have y0 := cell_at (HY.out _ hq2.out) 0
      have y1 := cell_at (HY.out _ hq2.out) 1
      simp only [List.getElem?_toArray, List.getElem?_cons_succ, List.getElem?_cons_zero] at y0 y1
      have hlit := lit1 wg ⟨on, ou⟩
      have hal := (Bl.rfl' wg).al (oH ⟨on, ou⟩)
      have S2 := set_any _ B _ [⟨on, ou⟩] _ (HB.out _ (hq2.out.tr hal)) hlit (by omega) (by simp)
      have hP2 : setP B [⟨on, ou⟩] = B := (set1_same hOkB.out.two ⟨on, ou⟩).trans hAgain.out
      rw [hP2] at S2
      have hz1 := hbz.out.tr hal
      have hq21 := hq2.out.tr hal
      clear hbz hq2 hlit hal hP2
      have hbz := Lib.hid hz1; have hq2 := Lib.hid hq21
      clear hz1 hq21
      replace S2 := Lib.hid S2
      go_wp2_with fail
      with_reducible refine (S2.out).mono ?_
      rintro e wj ⟨x2, rfl, hx2, hn⟩
      have hz1 := hbz.out.tr hn
      have hq21 := hq2.out.tr hn
      clear hbz hq2 hn
      have hbz := Lib.hid hz1; have hq2 := Lib.hid hq21
      clear hz1 hq21
      have hX2 := heads_own hx2
      have RW := row_any _ _ _ _ wj hX2 (HB.out _ hq2.out) (by omega) (by omega)
      rw [decide_eq_true rfl] at RW
      clear hx2 hX2
      replace RW := Lib.hid RW
      go_wp2_with fail
      with_reducible refine (RW.out).mono ?_
      rintro e wk ⟨rfl, hn⟩
      have hz1 := hbz.out.tr hn
      have hq21 := hq2.out.tr hn
      clear hbz hq2 hn
      have hbz := Lib.hid hz1; have hq2 := Lib.hid hq21
      clear hz1 hq21
      go_wp2_with fail
      with_reducible refine (LV.out _).mono ?_
      rintro e wl ⟨rfl, hn⟩
      go_wp2_with fail
      go_ret
      exact ⟨rfl, hbz.out.tr hn⟩
    · have ne1 : (om.toList != on.toList) = true := by rw [txt_ne, decide_eq_false hoo]; rfl
      have ne2 : (om.toList == on.toList) = false := by rw [txt_eq, decide_eq_false hoo]
      have hgo := hOther.out hoo
      clear hoo
      have CKq := CK.out _ hq2.out
      replace CKq := Lib.hid CKq
      go_wp2_with fail
      with_reducible refine (CKq.out).mono ?_
      rintro e wg ⟨rfl, hn⟩
      have hz1 := hbz.out.tr hn
      have hq21 := hq2.out.tr hn
      clear hbz hq2 hn
      have hbz := Lib.hid hz1; have hq2 := Lib.hid hq21
      clear hz1 hq21
      have y0 := cell_at (HY.out _ hq2.out) 0
      have y1 := cell_at (HY.out _ hq2.out) 1
      simp only [List.getElem?_toArray, List.getElem?_cons_succ, List.getElem?_cons_zero] at y0 y1
      have G3 := fun w' hb => GA.out om w' hb
      have G4 := fun w' hb => GB.out om w' hb
      have hvv : getV B om = getV A om := by unfold getV; rw [hgo]
      rw [hvv] at G4
      rcases getV_is A om with ⟨-, hg⟩ | ⟨z, -, hg⟩
      · rw [hg] at G3 G4
        clear hvv hgo hg
        replace G3 := Lib.hid G3
        replace G4 := Lib.hid G4
        go_wp2_with fail
        with_reducible refine (G3.out _ hq2.out).mono ?_
        rintro e wh ⟨rfl, hn⟩
        have hz1 := hbz.out.tr hn
        have hq21 := hq2.out.tr hn
        clear hbz hq2 hn
        have hbz := Lib.hid hz1; have hq2 := Lib.hid hq21
        clear hz1 hq21
        go_wp2_with fail
        with_reducible refine (G4.out _ hq2.out).mono ?_
        rintro e wi ⟨rfl, hn⟩
        have hz1 := hbz.out.tr hn
        have hq21 := hq2.out.tr hn
        clear hbz hq2 hn
        have hbz := Lib.hid hz1; have hq2 := Lib.hid hq21
        clear hz1 hq21
        have y0 := cell_at (HY.out _ hq2.out) 0
        have y1 := cell_at (HY.out _ hq2.out) 1
        simp only [List.getElem?_toArray, List.getElem?_cons_succ, List.getElem?_cons_zero] at y0 y1
        have hlit := lit1 wi ⟨on, ou⟩
        have hal := (Bl.rfl' wi).al (oH ⟨on, ou⟩)
        have S2 := set_any _ B _ [⟨on, ou⟩] _ (HB.out _ (hq2.out.tr hal)) hlit (by omega) (by simp)
        have hP2 : setP B [⟨on, ou⟩] = B := (set1_same hOkB.out.two ⟨on, ou⟩).trans hAgain.out
        rw [hP2] at S2
        have hz1 := hbz.out.tr hal
        have hq21 := hq2.out.tr hal
        clear hbz hq2 hlit hal hP2
        have hbz := Lib.hid hz1; have hq2 := Lib.hid hq21
        clear hz1 hq21
        replace S2 := Lib.hid S2
        go_wp2_with fail
        with_reducible refine (S2.out).mono ?_
        rintro e wj ⟨x2, rfl, hx2, hn⟩
        have hz1 := hbz.out.tr hn
        have hq21 := hq2.out.tr hn
        clear hbz hq2 hn
        have hbz := Lib.hid hz1; have hq2 := Lib.hid hq21
        clear hz1 hq21
        have hX2 := heads_own hx2
        have RW := row_any _ _ _ _ wj hX2 (HB.out _ hq2.out) (by omega) (by omega)
        rw [decide_eq_true rfl] at RW
        clear hx2 hX2
        replace RW := Lib.hid RW
        go_wp2_with fail
        with_reducible refine (RW.out).mono ?_
        rintro e wk ⟨rfl, hn⟩
        have hz1 := hbz.out.tr hn
        have hq21 := hq2.out.tr hn
        clear hbz hq2 hn
        have hbz := Lib.hid hz1; have hq2 := Lib.hid hq21
        clear hz1 hq21
        go_wp2_with fail
        with_reducible refine (LV.out _).mono ?_
        rintro e wl ⟨rfl, hn⟩
        go_wp2_with fail
        go_ret
        exact ⟨rfl, hbz.out.tr hn⟩
      · rw [hg] at G3 G4
        obtain ⟨zn, zv⟩ := z
        clear hvv hgo hg
        replace G3 := Lib.hid G3
        replace G4 := Lib.hid G4
        go_wp2_with fail
        with_reducible refine (G3.out _ hq2.out).mono ?_
        rintro e wh ⟨rfl, hn⟩
        have hz1 := hbz.out.tr hn
        have hq21 := hq2.out.tr hn
        clear hbz hq2 hn
        have hbz := Lib.hid hz1; have hq2 := Lib.hid hq21
        clear hz1 hq21
        go_wp2_with fail
        with_reducible refine (G4.out _ hq2.out).mono ?_
        rintro e wi ⟨rfl, hn⟩
        have hz1 := hbz.out.tr hn
        have hq21 := hq2.out.tr hn
        clear hbz hq2 hn
        have hbz := Lib.hid hz1; have hq2 := Lib.hid hq21
        clear hz1 hq21
        have y0 := cell_at (HY.out _ hq2.out) 0
        have y1 := cell_at (HY.out _ hq2.out) 1
        simp only [List.getElem?_toArray, List.getElem?_cons_succ, List.getElem?_cons_zero] at y0 y1
        have hlit := lit1 wi ⟨on, ou⟩
        have hal := (Bl.rfl' wi).al (oH ⟨on, ou⟩)
        have S2 := set_any _ B _ [⟨on, ou⟩] _ (HB.out _ (hq2.out.tr hal)) hlit (by omega) (by simp)
        have hP2 : setP B [⟨on, ou⟩] = B := (set1_same hOkB.out.two ⟨on, ou⟩).trans hAgain.out
        rw [hP2] at S2
        have hz1 := hbz.out.tr hal
        have hq21 := hq2.out.tr hal
        clear hbz hq2 hlit hal hP2
        have hbz := Lib.hid hz1; have hq2 := Lib.hid hq21
        clear hz1 hq21
        replace S2 := Lib.hid S2
        go_wp2_with fail
        with_reducible refine (S2.out).mono ?_
        rintro e wj ⟨x2, rfl, hx2, hn⟩
        have hz1 := hbz.out.tr hn
        have hq21 := hq2.out.tr hn
        clear hbz hq2 hn
        have hbz := Lib.hid hz1; have hq2 := Lib.hid hq21
        clear hz1 hq21
        have hX2 := heads_own hx2
        have RW := row_any _ _ _ _ wj hX2 (HB.out _ hq2.out) (by omega) (by omega)
        rw [decide_eq_true rfl] at RW
        clear hx2 hX2
        replace RW := Lib.hid RW
        go_wp2_with fail
        with_reducible refine (RW.out).mono ?_
        rintro e wk ⟨rfl, hn⟩
        have hz1 := hbz.out.tr hn
        have hq21 := hq2.out.tr hn
        clear hbz hq2 hn
        have hbz := Lib.hid hz1; have hq2 := Lib.hid hq21
        clear hz1 hq21
        go_wp2_with fail
        with_reducible refine (LV.out _).mono ?_
        rintro e wl ⟨rfl, hn⟩
        go_wp2_with fail
        go_ret
        exact ⟨rfl, hbz.out.tr hn⟩
  · rw [get_none ha] at gA
    simp only at gA
    rw [gA] at g2
    by_cases h8 : A.length < 8
    · rw [if_pos (Or.inr h8)] at gB
      simp only at gB
      rw [gB] at g1
      have d8 : decide ((A.length : Int) < 8) = true := decide_eq_true (by omega)
      clear ha gA gB
      replace g1 := Lib.hid g1
      replace g2 := Lib.hid g2
      go_wp2_with fail
      with_reducible refine (g1.out _ hq2.out).mono ?_
      rintro e we ⟨rfl, hn⟩
      have hz1 := hbz.out.tr hn
      have hq21 := hq2.out.tr hn
      clear hbz hq2 hn
      have hbz := Lib.hid hz1; have hq2 := Lib.hid hq21
      clear hz1 hq21
      have y0 := cell_at (HY.out _ hq2.out) 0
      simp only [List.getElem?_toArray, List.getElem?_cons_succ, List.getElem?_cons_zero] at y0
      go_wp2_with fail
      with_reducible refine (g2.out _ hq2.out).mono ?_
      rintro e wf ⟨rfl, hn⟩
      have hz1 := hbz.out.tr hn
      have hq21 := hq2.out.tr hn
      clear hbz hq2 hn
      have hbz := Lib.hid hz1; have hq2 := Lib.hid hq21
      clear hz1 hq21
      have y0 := cell_at (HY.out _ hq2.out) 0
      have y1 := cell_at (HY.out _ hq2.out) 1
      simp only [List.getElem?_toArray, List.getElem?_cons_succ, List.getElem?_cons_zero] at y0 y1
      have dB8 : decide ((B.length : Int) ≤ 8) = true := decide_eq_true (by omega)
      by_cases hoo : om = on
      · have ne1 : (om.toList != on.toList) = false := by rw [txt_ne, decide_eq_true hoo]; rfl
        have ne2 : (om.toList == on.toList) = true := by rw [txt_eq, decide_eq_true hoo]
        clear hoo
        have CKq := CK.out _ hq2.out
        replace CKq := Lib.hid CKq
        go_wp2_with fail
        with_reducible refine (CKq.out).mono ?_
        rintro e wg ⟨rfl, hn⟩
        have hz1 := hbz.out.tr hn
        have hq21 := hq2.out.tr hn
        clear hbz hq2 hn
        have hbz := Lib.hid hz1; have hq2 := Lib.hid hq21
        clear hz1 hq21
        have y0 := cell_at (HY.out _ hq2.out) 0
        have y1 := cell_at (HY.out _ hq2.out) 1
        simp only [List.getElem?_toArray, List.getElem?_cons_succ, List.getElem?_cons_zero] at y0 y1
        have hlit := lit1 wg ⟨on, ou⟩
        have hal := (Bl.rfl' wg).al (oH ⟨on, ou⟩)
        have S2 := set_any _ B _ [⟨on, ou⟩] _ (HB.out _ (hq2.out.tr hal)) hlit (by omega) (by simp)
        have hP2 : setP B [⟨on, ou⟩] = B := (set1_same hOkB.out.two ⟨on, ou⟩).trans hAgain.out
        rw [hP2] at S2
        have hz1 := hbz.out.tr hal
        have hq21 := hq2.out.tr hal
        clear hbz hq2 hlit hal hP2
        have hbz := Lib.hid hz1; have hq2 := Lib.hid hq21
        clear hz1 hq21
        replace S2 := Lib.hid S2
        go_wp2_with fail
        with_reducible refine (S2.out).mono ?_
        rintro e wj ⟨x2, rfl, hx2, hn⟩
        have hz1 := hbz.out.tr hn
        have hq21 := hq2.out.tr hn
        clear hbz hq2 hn
        have hbz := Lib.hid hz1; have hq2 := Lib.hid hq21
        clear hz1 hq21
        have hX2 := heads_own hx2
        have RW := row_any _ _ _ _ wj hX2 (HB.out _ hq2.out) (by omega) (by omega)
        rw [decide_eq_true rfl] at RW
        clear hx2 hX2
        replace RW := Lib.hid RW
        go_wp2_with fail
        with_reducible refine (RW.out).mono ?_
        rintro e wk ⟨rfl, hn⟩
        have hz1 := hbz.out.tr hn
        have hq21 := hq2.out.tr hn
        clear hbz hq2 hn
        have hbz := Lib.hid hz1; have hq2 := Lib.hid hq21
        clear hz1 hq21
        go_wp2_with fail
        with_reducible refine (LV.out _).mono ?_
        rintro e wl ⟨rfl, hn⟩
        go_wp2_with fail
        go_ret
        exact ⟨rfl, hbz.out.tr hn⟩
      · have ne1 : (om.toList != on.toList) = true := by rw [txt_ne, decide_eq_false hoo]; rfl
        have ne2 : (om.toList == on.toList) = false := by rw [txt_eq, decide_eq_false hoo]
        have hgo := hOther.out hoo
        clear hoo
        have CKq := CK.out _ hq2.out
        replace CKq := Lib.hid CKq
        go_wp2_with fail
        with_reducible refine (CKq.out).mono ?_
        rintro e wg ⟨rfl, hn⟩
        have hz1 := hbz.out.tr hn
        have hq21 := hq2.out.tr hn
        clear hbz hq2 hn
        have hbz := Lib.hid hz1; have hq2 := Lib.hid hq21
        clear hz1 hq21
        have y0 := cell_at (HY.out _ hq2.out) 0
        have y1 := cell_at (HY.out _ hq2.out) 1
        simp only [List.getElem?_toArray, List.getElem?_cons_succ, List.getElem?_cons_zero] at y0 y1
        have G3 := fun w' hb => GA.out om w' hb
        have G4 := fun w' hb => GB.out om w' hb
        have hvv : getV B om = getV A om := by unfold getV; rw [hgo]
        rw [hvv] at G4
        rcases getV_is A om with ⟨-, hg⟩ | ⟨z, -, hg⟩
        · rw [hg] at G3 G4
          clear hvv hgo hg
          replace G3 := Lib.hid G3
          replace G4 := Lib.hid G4
          go_wp2_with fail
          with_reducible refine (G3.out _ hq2.out).mono ?_
          rintro e wh ⟨rfl, hn⟩
          have hz1 := hbz.out.tr hn
          have hq21 := hq2.out.tr hn
          clear hbz hq2 hn
          have hbz := Lib.hid hz1; have hq2 := Lib.hid hq21
          clear hz1 hq21
          go_wp2_with fail
          with_reducible refine (G4.out _ hq2.out).mono ?_
          rintro e wi ⟨rfl, hn⟩
          have hz1 := hbz.out.tr hn
          have hq21 := hq2.out.tr hn
          clear hbz hq2 hn
          have hbz := Lib.hid hz1; have hq2 := Lib.hid hq21
          clear hz1 hq21
          have y0 := cell_at (HY.out _ hq2.out) 0
          have y1 := cell_at (HY.out _ hq2.out) 1
          simp only [List.getElem?_toArray, List.getElem?_cons_succ, List.getElem?_cons_zero] at y0 y1
          have hlit := lit1 wi ⟨on, ou⟩
          have hal := (Bl.rfl' wi).al (oH ⟨on, ou⟩)
          have S2 := set_any _ B _ [⟨on, ou⟩] _ (HB.out _ (hq2.out.tr hal)) hlit (by omega) (by simp)
          have hP2 : setP B [⟨on, ou⟩] = B := (set1_same hOkB.out.two ⟨on, ou⟩).trans hAgain.out
          rw [hP2] at S2
          have hz1 := hbz.out.tr hal
          have hq21 := hq2.out.tr hal
          clear hbz hq2 hlit hal hP2
          have hbz := Lib.hid hz1; have hq2 := Lib.hid hq21
          clear hz1 hq21
          replace S2 := Lib.hid S2
          go_wp2_with fail
          with_reducible refine (S2.out).mono ?_
          rintro e wj ⟨x2, rfl, hx2, hn⟩
          have hz1 := hbz.out.tr hn
          have hq21 := hq2.out.tr hn
          clear hbz hq2 hn
          have hbz := Lib.hid hz1; have hq2 := Lib.hid hq21
          clear hz1 hq21
          have hX2 := heads_own hx2
          have RW := row_any _ _ _ _ wj hX2 (HB.out _ hq2.out) (by omega) (by omega)
          rw [decide_eq_true rfl] at RW
          clear hx2 hX2
          replace RW := Lib.hid RW
          go_wp2_with fail
          with_reducible refine (RW.out).mono ?_
          rintro e wk ⟨rfl, hn⟩
          have hz1 := hbz.out.tr hn
          have hq21 := hq2.out.tr hn
          clear hbz hq2 hn
          have hbz := Lib.hid hz1; have hq2 := Lib.hid hq21
          clear hz1 hq21
          go_wp2_with fail
          with_reducible refine (LV.out _).mono ?_
          rintro e wl ⟨rfl, hn⟩
          go_wp2_with fail
          go_ret
          exact ⟨rfl, hbz.out.tr hn⟩
        · rw [hg] at G3 G4
          obtain ⟨zn, zv⟩ := z
          clear hvv hgo hg
          replace G3 := Lib.hid G3
          replace G4 := Lib.hid G4
          go_wp2_with fail
          with_reducible refine (G3.out _ hq2.out).mono ?_
          rintro e wh ⟨rfl, hn⟩
          have hz1 := hbz.out.tr hn
          have hq21 := hq2.out.tr hn
          clear hbz hq2 hn
          have hbz := Lib.hid hz1; have hq2 := Lib.hid hq21
          clear hz1 hq21
          go_wp2_with fail
          with_reducible refine (G4.out _ hq2.out).mono ?_
          rintro e wi ⟨rfl, hn⟩
          have hz1 := hbz.out.tr hn
          have hq21 := hq2.out.tr hn
          clear hbz hq2 hn
          have hbz := Lib.hid hz1; have hq2 := Lib.hid hq21
          clear hz1 hq21
          have y0 := cell_at (HY.out _ hq2.out) 0
          have y1 := cell_at (HY.out _ hq2.out) 1
          simp only [List.getElem?_toArray, List.getElem?_cons_succ, List.getElem?_cons_zero] at y0 y1
          have hlit := lit1 wi ⟨on, ou⟩
          have hal := (Bl.rfl' wi).al (oH ⟨on, ou⟩)
          have S2 := set_any _ B _ [⟨on, ou⟩] _ (HB.out _ (hq2.out.tr hal)) hlit (by omega) (by simp)
          have hP2 : setP B [⟨on, ou⟩] = B := (set1_same hOkB.out.two ⟨on, ou⟩).trans hAgain.out
          rw [hP2] at S2
          have hz1 := hbz.out.tr hal
          have hq21 := hq2.out.tr hal
          clear hbz hq2 hlit hal hP2
          have hbz := Lib.hid hz1; have hq2 := Lib.hid hq21
          clear hz1 hq21
          replace S2 := Lib.hid S2
          go_wp2_with fail
          with_reducible refine (S2.out).mono ?_
          rintro e wj ⟨x2, rfl, hx2, hn⟩
          have hz1 := hbz.out.tr hn
          have hq21 := hq2.out.tr hn
          clear hbz hq2 hn
          have hbz := Lib.hid hz1; have hq2 := Lib.hid hq21
          clear hz1 hq21
          have hX2 := heads_own hx2
          have RW := row_any _ _ _ _ wj hX2 (HB.out _ hq2.out) (by omega) (by omega)
          rw [decide_eq_true rfl] at RW
          clear hx2 hX2
          replace RW := Lib.hid RW
          go_wp2_with fail
          with_reducible refine (RW.out).mono ?_
          rintro e wk ⟨rfl, hn⟩
          have hz1 := hbz.out.tr hn
          have hq21 := hq2.out.tr hn
          clear hbz hq2 hn
          have hbz := Lib.hid hz1; have hq2 := Lib.hid hq21
          clear hz1 hq21
          go_wp2_with fail
          with_reducible refine (LV.out _).mono ?_
          rintro e wl ⟨rfl, hn⟩
          go_wp2_with fail
          go_ret
          exact ⟨rfl, hbz.out.tr hn⟩
    · rw [if_neg (fun hc => hc.elim ha h8)] at gB
      simp only at gB
      rw [gB] at g1
      have d8 : decide ((A.length : Int) < 8) = false := decide_eq_false (by omega)
      clear ha gA gB
      replace g1 := Lib.hid g1
      replace g2 := Lib.hid g2
      go_wp2_with fail
      with_reducible refine (g1.out _ hq2.out).mono ?_
      rintro e we ⟨rfl, hn⟩
      have hz1 := hbz.out.tr hn
      have hq21 := hq2.out.tr hn
      clear hbz hq2 hn
      have hbz := Lib.hid hz1; have hq2 := Lib.hid hq21
      clear hz1 hq21
      have y0 := cell_at (HY.out _ hq2.out) 0
      simp only [List.getElem?_toArray, List.getElem?_cons_succ, List.getElem?_cons_zero] at y0
      go_wp2_with fail
      with_reducible refine (g2.out _ hq2.out).mono ?_
      rintro e wf ⟨rfl, hn⟩
      have hz1 := hbz.out.tr hn
      have hq21 := hq2.out.tr hn
      clear hbz hq2 hn
      have hbz := Lib.hid hz1; have hq2 := Lib.hid hq21
      clear hz1 hq21
      have y0 := cell_at (HY.out _ hq2.out) 0
      have y1 := cell_at (HY.out _ hq2.out) 1
      simp only [List.getElem?_toArray, List.getElem?_cons_succ, List.getElem?_cons_zero] at y0 y1
      have dB8 : decide ((B.length : Int) ≤ 8) = true := decide_eq_true (by omega)
      by_cases hoo : om = on
      · have ne1 : (om.toList != on.toList) = false := by rw [txt_ne, decide_eq_true hoo]; rfl
        have ne2 : (om.toList == on.toList) = true := by rw [txt_eq, decide_eq_true hoo]
        clear hoo
        have CKq := CK.out _ hq2.out
        replace CKq := Lib.hid CKq
        go_wp2_with fail
        with_reducible refine (CKq.out).mono ?_
        rintro e wg ⟨rfl, hn⟩
        have hz1 := hbz.out.tr hn
        have hq21 := hq2.out.tr hn
        clear hbz hq2 hn
        have hbz := Lib.hid hz1; have hq2 := Lib.hid hq21
        clear hz1 hq21
        have y0 := cell_at (HY.out _ hq2.out) 0
        have y1 := cell_at (HY.out _ hq2.out) 1
        simp only [List.getElem?_toArray, List.getElem?_cons_succ, List.getElem?_cons_zero] at y0 y1
        have hlit := lit1 wg ⟨on, ou⟩
        have hal := (Bl.rfl' wg).al (oH ⟨on, ou⟩)
        have S2 := set_any _ B _ [⟨on, ou⟩] _ (HB.out _ (hq2.out.tr hal)) hlit (by omega) (by simp)
        have hP2 : setP B [⟨on, ou⟩] = B := (set1_same hOkB.out.two ⟨on, ou⟩).trans hAgain.out
        rw [hP2] at S2
        have hz1 := hbz.out.tr hal
        have hq21 := hq2.out.tr hal
        clear hbz hq2 hlit hal hP2
        have hbz := Lib.hid hz1; have hq2 := Lib.hid hq21
        clear hz1 hq21
        replace S2 := Lib.hid S2
        go_wp2_with fail
        with_reducible refine (S2.out).mono ?_
        rintro e wj ⟨x2, rfl, hx2, hn⟩
        have hz1 := hbz.out.tr hn
        have hq21 := hq2.out.tr hn
        clear hbz hq2 hn
        have hbz := Lib.hid hz1; have hq2 := Lib.hid hq21
        clear hz1 hq21
        have hX2 := heads_own hx2
        have RW := row_any _ _ _ _ wj hX2 (HB.out _ hq2.out) (by omega) (by omega)
        rw [decide_eq_true rfl] at RW
        clear hx2 hX2
        replace RW := Lib.hid RW
        go_wp2_with fail
        with_reducible refine (RW.out).mono ?_
        rintro e wk ⟨rfl, hn⟩
        have hz1 := hbz.out.tr hn
        have hq21 := hq2.out.tr hn
        clear hbz hq2 hn
        have hbz := Lib.hid hz1; have hq2 := Lib.hid hq21
        clear hz1 hq21
        go_wp2_with fail
        with_reducible refine (LV.out _).mono ?_
        rintro e wl ⟨rfl, hn⟩
        go_wp2_with fail
        go_ret
        exact ⟨rfl, hbz.out.tr hn⟩
      · have ne1 : (om.toList != on.toList) = true := by rw [txt_ne, decide_eq_false hoo]; rfl
        have ne2 : (om.toList == on.toList) = false := by rw [txt_eq, decide_eq_false hoo]
        have hgo := hOther.out hoo
        clear hoo
        have CKq := CK.out _ hq2.out
        replace CKq := Lib.hid CKq
        go_wp2_with fail
        with_reducible refine (CKq.out).mono ?_
        rintro e wg ⟨rfl, hn⟩
        have hz1 := hbz.out.tr hn
        have hq21 := hq2.out.tr hn
        clear hbz hq2 hn
        have hbz := Lib.hid hz1; have hq2 := Lib.hid hq21
        clear hz1 hq21
        have y0 := cell_at (HY.out _ hq2.out) 0
        have y1 := cell_at (HY.out _ hq2.out) 1
        simp only [List.getElem?_toArray, List.getElem?_cons_succ, List.getElem?_cons_zero] at y0 y1
        have G3 := fun w' hb => GA.out om w' hb
        have G4 := fun w' hb => GB.out om w' hb
        have hvv : getV B om = getV A om := by unfold getV; rw [hgo]
        rw [hvv] at G4
        rcases getV_is A om with ⟨-, hg⟩ | ⟨z, -, hg⟩
        · rw [hg] at G3 G4
          clear hvv hgo hg
          replace G3 := Lib.hid G3
          replace G4 := Lib.hid G4
          go_wp2_with fail
          with_reducible refine (G3.out _ hq2.out).mono ?_
          rintro e wh ⟨rfl, hn⟩
          have hz1 := hbz.out.tr hn
          have hq21 := hq2.out.tr hn
          clear hbz hq2 hn
          have hbz := Lib.hid hz1; have hq2 := Lib.hid hq21
          clear hz1 hq21
          go_wp2_with fail
          with_reducible refine (G4.out _ hq2.out).mono ?_
          rintro e wi ⟨rfl, hn⟩
          have hz1 := hbz.out.tr hn
          have hq21 := hq2.out.tr hn
          clear hbz hq2 hn
          have hbz := Lib.hid hz1; have hq2 := Lib.hid hq21
          clear hz1 hq21
          have y0 := cell_at (HY.out _ hq2.out) 0
          have y1 := cell_at (HY.out _ hq2.out) 1
          simp only [List.getElem?_toArray, List.getElem?_cons_succ, List.getElem?_cons_zero] at y0 y1
          have hlit := lit1 wi ⟨on, ou⟩
          have hal := (Bl.rfl' wi).al (oH ⟨on, ou⟩)
          have S2 := set_any _ B _ [⟨on, ou⟩] _ (HB.out _ (hq2.out.tr hal)) hlit (by omega) (by simp)
          have hP2 : setP B [⟨on, ou⟩] = B := (set1_same hOkB.out.two ⟨on, ou⟩).trans hAgain.out
          rw [hP2] at S2
          have hz1 := hbz.out.tr hal
          have hq21 := hq2.out.tr hal
          clear hbz hq2 hlit hal hP2
          have hbz := Lib.hid hz1; have hq2 := Lib.hid hq21
          clear hz1 hq21
          replace S2 := Lib.hid S2
          go_wp2_with fail
          with_reducible refine (S2.out).mono ?_
          rintro e wj ⟨x2, rfl, hx2, hn⟩
          have hz1 := hbz.out.tr hn
          have hq21 := hq2.out.tr hn
          clear hbz hq2 hn
          have hbz := Lib.hid hz1; have hq2 := Lib.hid hq21
          clear hz1 hq21
          have hX2 := heads_own hx2
          have RW := row_any _ _ _ _ wj hX2 (HB.out _ hq2.out) (by omega) (by omega)
          rw [decide_eq_true rfl] at RW
          clear hx2 hX2
          replace RW := Lib.hid RW
          go_wp2_with fail
          with_reducible refine (RW.out).mono ?_
          rintro e wk ⟨rfl, hn⟩
          have hz1 := hbz.out.tr hn
          have hq21 := hq2.out.tr hn
          clear hbz hq2 hn
          have hbz := Lib.hid hz1; have hq2 := Lib.hid hq21
          clear hz1 hq21
          go_wp2_with fail
          with_reducible refine (LV.out _).mono ?_
          rintro e wl ⟨rfl, hn⟩
          go_wp2_with fail
          go_ret
          exact ⟨rfl, hbz.out.tr hn⟩
        · rw [hg] at G3 G4
          obtain ⟨zn, zv⟩ := z
          clear hvv hgo hg
          replace G3 := Lib.hid G3
          replace G4 := Lib.hid G4
          go_wp2_with fail
          with_reducible refine (G3.out _ hq2.out).mono ?_
          rintro e wh ⟨rfl, hn⟩
          have hz1 := hbz.out.tr hn
          have hq21 := hq2.out.tr hn
          clear hbz hq2 hn
          have hbz := Lib.hid hz1; have hq2 := Lib.hid hq21
          clear hz1 hq21
          go_wp2_with fail
          with_reducible refine (G4.out _ hq2.out).mono ?_
          rintro e wi ⟨rfl, hn⟩
          have hz1 := hbz.out.tr hn
          have hq21 := hq2.out.tr hn
          clear hbz hq2 hn
          have hbz := Lib.hid hz1; have hq2 := Lib.hid hq21
          clear hz1 hq21
          have y0 := cell_at (HY.out _ hq2.out) 0
          have y1 := cell_at (HY.out _ hq2.out) 1
          simp only [List.getElem?_toArray, List.getElem?_cons_succ, List.getElem?_cons_zero] at y0 y1
          have hlit := lit1 wi ⟨on, ou⟩
          have hal := (Bl.rfl' wi).al (oH ⟨on, ou⟩)
          have S2 := set_any _ B _ [⟨on, ou⟩] _ (HB.out _ (hq2.out.tr hal)) hlit (by omega) (by simp)
          have hP2 : setP B [⟨on, ou⟩] = B := (set1_same hOkB.out.two ⟨on, ou⟩).trans hAgain.out
          rw [hP2] at S2
          have hz1 := hbz.out.tr hal
          have hq21 := hq2.out.tr hal
          clear hbz hq2 hlit hal hP2
          have hbz := Lib.hid hz1; have hq2 := Lib.hid hq21
          clear hz1 hq21
          replace S2 := Lib.hid S2
          go_wp2_with fail
          with_reducible refine (S2.out).mono ?_
          rintro e wj ⟨x2, rfl, hx2, hn⟩
          have hz1 := hbz.out.tr hn
          have hq21 := hq2.out.tr hn
          clear hbz hq2 hn
          have hbz := Lib.hid hz1; have hq2 := Lib.hid hq21
          clear hz1 hq21
          have hX2 := heads_own hx2
          have RW := row_any _ _ _ _ wj hX2 (HB.out _ hq2.out) (by omega) (by omega)
          rw [decide_eq_true rfl] at RW
          clear hx2 hX2
          replace RW := Lib.hid RW
          go_wp2_with fail
          with_reducible refine (RW.out).mono ?_
          rintro e wk ⟨rfl, hn⟩
          have hz1 := hbz.out.tr hn
          have hq21 := hq2.out.tr hn
          clear hbz hq2 hn
          have hbz := Lib.hid hz1; have hq2 := Lib.hid hq21
          clear hz1 hq21
          go_wp2_with fail
          with_reducible refine (LV.out _).mono ?_
          rintro e wl ⟨rfl, hn⟩
          go_wp2_with fail
          go_ret
          exact ⟨rfl, hbz.out.tr hn⟩
end Go.Proofs.YtcbpagbalagllaaDoor.headsSets
