/-
  Package rewrite: Path.
-/
import Derived.Test.YtnmehmlenbbfbaaRwC
import Derived.Deep.CutRange
namespace Go.Proofs.Ytnmehmlenbbfbaa.mat
open Go.ChangeShapes Go.WideShapes Go.ChangeAt Go.RowKit
open Go.Proofs.Ytnmehmlenbbfbaa.heads
set_option linter.unusedVariables false
set_option linter.unusedSimpArgs false

abbrev rV (pp : ByteArray) (ex : Bool) (px : ByteArray) (sv dv : Value) : Value := .agg #[S pp, .bool ex, .slice none 0 0, .slice none 0 0, I 0, I 0, I 0, I 0, S px, sv, dv, I 0, I 0, I 0, I 0, I 0, I 0, I 0, I 0]
abbrev oRu (pp : ByteArray) (ex : Bool) (px : ByteArray) (sv dv : Value) : Obj := .cells #[S pp, .bool ex, .slice none 0 0, .slice none 0 0, I 0, I 0, I 0, I 0, S px, sv, dv, I 0, I 0, I 0, I 0, I 0, I 0, I 0, I 0] 35
def addP (o p : ByteArray) : ByteArray := if p = sl then o else o ++ p
abbrev oT (o : ByteArray) : Obj := .cells #[S o] 9
theorem put_any (p o : ByteArray) (b : Nat) (w : World) (hb : w.heap[b]? = some (oT o)) (hs : o.size ≤ 3000000) (hp : p.size ≤ 3000000) :
    Calls Try.prog 30 #[S p, .pointer (some ⟨b, 0, none⟩)] w fun e w' => e = .returned (.tuple #[]) ∧ w'.heap[b]? = some (oT (addP o p)) ∧ w.grownBy w' (some b) := by
  have c0 := cell_at hb 0
  have f0 := free_at hb
  simp only [List.getElem?_toArray, List.getElem?_cons_zero] at c0
  have he := eq_sl p
  have ha : addP o p = if p = sl then o else o ++ p := rfl
  by_cases h : p = sl
  · rw [decide_eq_true h] at he
    rw [ha, if_pos h]
    clear ha h
    replace hb := Lib.hid hb
    go_enter Try.func30, Try.ntmps30
    go_wp2_with fail
    refine bodyPost_end (results_none rfl _ _ _) rfl ?_
    exact ⟨rfl, hb.out, gby_rfl _ _⟩
  · rw [decide_eq_false h] at he
    rw [ha, if_neg h]
    have ad := fun w => run_string_add_sum (P := Try.prog) w o p (by omega)
    obtain ⟨z, hz⟩ : ∃ z_, (o ++ p) = z_ := ⟨_, rfl⟩
    simp only [hz] at ad
    rw [hz]
    have hs2 := set_at 0 (S z) hb
    simp only [List.setIfInBounds_toArray, List.set_cons_zero] at hs2
    have hg := gby_set w b 0 (S z)
    obtain ⟨w2, hw2⟩ : ∃ X, w.setCell ⟨b, 0, none⟩ (S z) = X := ⟨_, rfl⟩
    rw [hw2] at hs2 hg
    clear ha h hb hz
    replace hs2 := Lib.hid hs2
    replace hg := Lib.hid hg
    go_enter Try.func30, Try.ntmps30
    go_wp2_with fail
    refine bodyPost_end (results_none rfl _ _ _) rfl ?_
    exact ⟨rfl, hs2.out, hg.out⟩
def behF (path by' : ByteArray) : ByteArray := if by' = sl then path else ⟨(Lib.trimPrefix path.data.toList by'.data.toList).toArray⟩
theorem trim_len (s p : List UInt8) : (Lib.trimPrefix s p).length ≤ s.length := by
  unfold Lib.trimPrefix
  split
  · rw [List.length_drop]; omega
  · exact Nat.le_refl _
theorem behF_size (s p : ByteArray) : (behF s p).size ≤ s.size := by
  unfold behF
  split
  · exact Nat.le_refl _
  · show (Lib.trimPrefix s.data.toList p.data.toList).toArray.size ≤ _
    have := trim_len s.data.toList p.data.toList
    rw [Array.length_toList] at this
    rw [List.size_toArray]
    exact this
theorem behind_any (s p : ByteArray) (w : World) :
    Calls Try.prog 31 #[S s, S p] w fun e w' => e = .returned (S (behF s p)) ∧ w = w' := by
  have he := eq_sl p
  have hb : behF s p = if p = sl then s else ⟨(Lib.trimPrefix s.data.toList p.data.toList).toArray⟩ := rfl
  rw [hb]
  have T := Lib.hid (Try.strings_TrimPrefix s p w)
  by_cases h : p = sl
  · rw [decide_eq_true h] at he
    rw [if_pos h]
    clear h hb T
    go_enter Try.func31, Try.ntmps31
    go_wp2_with fail
    go_ret
    exact ⟨rfl, rfl⟩
  · rw [decide_eq_false h] at he
    rw [if_neg h]
    obtain ⟨z, hz⟩ : ∃ z_, ((⟨(Lib.trimPrefix s.data.toList p.data.toList).toArray⟩ : ByteArray)) = z_ := ⟨_, rfl⟩
    simp only [hz] at T
    rw [hz]
    clear h hb hz
    go_enter Try.func31, Try.ntmps31
    go_wp2_with fail
    with_reducible refine (T.out).mono ?_
    rintro e w' ⟨rfl, rfl⟩
    go_wp2_with fail
    go_ret
    exact ⟨rfl, rfl⟩
def outF (pp px path : ByteArray) : ByteArray := addP (addP ⟨#[]⟩ px) (behF path pp)
def rwF (pp : ByteArray) (ex : Bool) (px path : ByteArray) : ByteArray := if px = ⟨#[]⟩ ∨ onF pp ex path = false then path else if ex = true then px else if outF pp px path = ⟨#[]⟩ then sl else if 60 < (outF pp px path).size then path else outF pp px path
theorem addP_size (o p : ByteArray) : (addP o p).size ≤ o.size + p.size := by
  unfold addP
  split
  · omega
  · rw [ByteArray.size_append]; omega
theorem rw_1 {pp px path : ByteArray} {ex : Bool} (h : px = ⟨#[]⟩ ∨ onF pp ex path = false) : rwF pp ex px path = path := by unfold rwF; rw [if_pos h]
theorem rw_2 {pp px path : ByteArray} (h1 : px ≠ ⟨#[]⟩) (h2 : onF pp true path = true) : rwF pp true px path = px := by
  unfold rwF; rw [if_neg (by rintro (h | h); exact h1 h; rw [h2] at h; cases h), if_pos rfl]
theorem rw_3 {pp px path : ByteArray} (h1 : px ≠ ⟨#[]⟩) (h2 : onF pp false path = true) : rwF pp false px path = if outF pp px path = ⟨#[]⟩ then sl else if 60 < (outF pp px path).size then path else outF pp px path := by
  unfold rwF; rw [if_neg (by rintro (h | h); exact h1 h; rw [h2] at h; cases h), if_neg (by simp)]
abbrev fPut (b : Nat) : Value := .func (.func 30) #[] #[.pointer (some ⟨b, 0, none⟩)]
set_option maxRecDepth 20000 in
set_option maxHeartbeats 8000000 in
theorem rwpath_any (pp : ByteArray) (ex : Bool) (px : ByteArray) (sv dv : Value) (path : ByteArray) (w : World) (h1 : pp.size ≤ 1000000) (h2 : px.size ≤ 1000000) (h3 : path.size ≤ 1000000) :
    Calls Try.prog 13 #[rV pp ex px sv dv, S path] w fun e w' => e = .returned (S (rwF pp ex px path)) ∧ Bl w w' := by
  have hX := heap_alloc_new w (oRu pp ex px sv dv)
  have hb := (Bl.rfl' w).al (oRu pp ex px sv dv)
  have hent : ∀ args w, (callFunc 30 args).run Try.prog w = .ok (.enter 30 args) w := enters_of Try.func30 (by kernel_rfl) rfl
  obtain ⟨r, hr⟩ : ∃ X, w.heap.size = X := ⟨_, rfl⟩
  obtain ⟨w1, hw1⟩ : ∃ X, w.alloc (oRu pp ex px sv dv) = X := ⟨_, rfl⟩
  have hw1' : w.alloc (.cells #[.string pp, .bool ex, .slice none 0 0, .slice none 0 0, .int .i64 0, .int .i64 0, .int .i64 0, .int .i64 0, .string px, sv, dv, .int .i64 0, .int .i64 0, .int .i64 0, .int .i64 0, .int .i64 0, .int .i64 0, .int .i64 0, .int .i64 0] 35) = w1 := hw1
  rw [hw1] at hX hb
  have ON := on_any pp ex (.slice none 0 0) path w1 h3 h1
  rw [hr] at hX
  have c0 := cell_at hX 0
  have c1 := cell_at hX 1
  have c2 := cell_at hX 2
  have c8 := cell_at hX 8
  simp only [List.getElem?_toArray, List.getElem?_cons_succ, List.getElem?_cons_zero] at c0 c1 c2 c8
  have he := eq_no px
  by_cases h0 : px = ⟨#[]⟩
  · rw [decide_eq_true h0] at he
    rw [rw_1 (Or.inl h0)]
    clear h0 ON hw1 hX
    replace hb := Lib.hid hb
    go_enter Try.func13, Try.ntmps13
    go_wp2_with fail
    go_ret
    exact ⟨rfl, hb.out⟩
  · rw [decide_eq_false h0] at he
    have r1 := fun h => rw_1 (pp := pp) (px := px) (path := path) (ex := ex) (Or.inr h)
    have r2 := fun h => rw_2 (pp := pp) (px := px) (path := path) h0 h
    have r3 := fun h => rw_3 (pp := pp) (px := px) (path := path) h0 h
    obtain ⟨ob, hob⟩ : ∃ z_, (onF pp ex path) = z_ := ⟨_, rfl⟩
    rw [hob] at ON r1
    cases ob with
    | false =>
      rw [r1 rfl]
      clear h0 r1 r2 r3 hob hw1
      replace hb := Lib.hid hb
      replace ON := Lib.hid ON
      replace hX := Lib.hid hX
      go_enter Try.func13, Try.ntmps13
      go_wp2_with fail
      with_reducible refine (ON.out).mono ?_
      rintro e w2 ⟨rfl, hn⟩
      have hz := hb.out.tr hn
      replace hz := Lib.hid hz
      clear hn
      go_wp2_with fail
      go_ret
      exact ⟨rfl, hz.out⟩
    | true =>
      cases ex with
      | true =>
        rw [r2 hob]
        clear h0 r1 r2 r3 hob hw1
        replace hb := Lib.hid hb
        replace ON := Lib.hid ON
        replace hX := Lib.hid hX
        go_enter Try.func13, Try.ntmps13
        go_wp2_with fail
        with_reducible refine (ON.out).mono ?_
        rintro e w2 ⟨rfl, hn⟩
        have hz := hb.out.tr hn
        have hX2 := blk_bl hX.out hn
        clear hn c0 c1 c2 c8
        have c1 := cell_at hX2 1
        have c8 := cell_at hX2 8
        simp only [List.getElem?_toArray, List.getElem?_cons_succ, List.getElem?_cons_zero] at c1 c8
        replace hz := Lib.hid hz
        replace hX2 := Lib.hid hX2
        go_wp2_with fail
        go_ret
        exact ⟨rfl, hz.out⟩
      | false =>
        rw [r3 hob]
        have hout : outF pp px path = addP (addP ⟨#[]⟩ px) (behF path pp) := rfl
        have z1 := addP_size ⟨#[]⟩ px
        have hz0 : (⟨#[]⟩ : ByteArray).size = 0 := rfl
        have z2 := behF_size path pp
        have z3 := addP_size (addP ⟨#[]⟩ px) (behF path pp)
        have BH := Lib.hid (fun w => behind_any path pp w)
        have PU := Lib.hid (fun p o b w hb hs hp => put_any p o b w hb hs hp)
        obtain ⟨bh, hbh⟩ : ∃ z_, (behF path pp) = z_ := ⟨_, rfl⟩
        simp only [hbh] at BH
        rw [hbh] at hout z2 z3
        obtain ⟨o1, ho1⟩ : ∃ z_, (addP ⟨#[]⟩ px) = z_ := ⟨_, rfl⟩
        rw [ho1] at hout z1 z3
        obtain ⟨o2, ho2⟩ : ∃ z_, (addP o1 bh) = z_ := ⟨_, rfl⟩
        rw [ho2] at hout z3
        rw [hout]
        have he2 := eq_no o2
        have hsz : o2.size ≤ 3000000 ∧ o1.size ≤ 3000000 ∧ bh.size ≤ 3000000 := by omega
        obtain ⟨RR, hRR⟩ : ∃ X, (if o2 = ⟨#[]⟩ then sl else if 60 < o2.size then path else o2) = X := ⟨_, rfl⟩
        rw [hRR]
        clear h0 r1 r2 r3 hob hw1 z1 z2 z3 hbh hout hz0
        replace hb := Lib.hid hb
        replace ON := Lib.hid ON
        replace hX := Lib.hid hX
        replace ho1 := Lib.hid ho1
        replace ho2 := Lib.hid ho2
        replace hsz := Lib.hid hsz
        replace hRR := Lib.hid hRR
        go_enter Try.func13, Try.ntmps13
        go_wp2_with fail
        with_reducible refine (ON.out).mono ?_
        rintro e w2 ⟨rfl, hn⟩
        have hz := hb.out.tr hn
        have hX2 := blk_bl hX.out hn
        clear hn c0 c1 c2 c8
        have c1 := cell_at hX2 1
        simp only [List.getElem?_toArray, List.getElem?_cons_succ, List.getElem?_cons_zero] at c1
        have b1 := heap_alloc_new w2 (oT ⟨#[]⟩)
        have i1 := (Bl.rfl' w2).al (oT ⟨#[]⟩)
        have hX3 := blk_bl hX2 i1
        have d8 := cell_at hX3 8
        simp only [List.getElem?_toArray, List.getElem?_cons_succ, List.getElem?_cons_zero] at d8
        obtain ⟨b, hbb⟩ : ∃ X, w2.heap.size = X := ⟨_, rfl⟩
        have hge : w.heap.size ≤ b := by rw [← hbb]; exact hz.size
        have hrb : r < b := by rw [← hbb]; exact lt_of_block hX2
        have hz3 := hz.tr i1
        rw [hbb] at b1
        have P1 := PU.out px ⟨#[]⟩ b (w2.alloc (oT ⟨#[]⟩)) b1 (by show 0 ≤ _; omega) (by omega)
        rw [ho1.out] at P1
        replace hz := Lib.hid hz
        replace hX2 := Lib.hid hX2
        replace hX3 := Lib.hid hX3
        replace hz3 := Lib.hid hz3
        replace hge := Lib.hid hge
        replace hrb := Lib.hid hrb
        replace P1 := Lib.hid P1
        replace hbb := Lib.hid hbb
        go_upto_region 7 with fail
        rw [hbb.out]
        go_wp2_with fail
        with_reducible refine (P1.out).mono ?_
        rintro e w4 ⟨rfl, hb4, hg4⟩
        have hX4 := (hg4.block r (lt_of_block hX3.out) (fun e => by cases e; have := hrb.out; omega)).trans hX3.out
        have hz4 := hz3.out.gp hg4 hge.out
        clear hg4 d8 c1
        have c0 := cell_at hX4 0
        simp only [List.getElem?_toArray, List.getElem?_cons_succ, List.getElem?_cons_zero] at c0
        have P2 := PU.out bh o1 b w4 hb4 hsz.out.2.1 hsz.out.2.2
        rw [ho2.out] at P2
        replace hX4 := Lib.hid hX4
        replace hz4 := Lib.hid hz4
        replace hb4 := Lib.hid hb4
        replace P2 := Lib.hid P2
        go_wp2_with fail
        with_reducible refine (BH.out _).mono ?_
        rintro e w5 ⟨rfl, rfl⟩
        go_wp2_with fail
        with_reducible refine (P2.out).mono ?_
        rintro e w6 ⟨rfl, hb6, hg6⟩
        have hz6 := hz4.out.gp hg6 hge.out
        have k0 := cell_at hb6 0
        simp only [List.getElem?_toArray, List.getElem?_cons_succ, List.getElem?_cons_zero] at k0
        have hy := hRR.out
        clear hg6 c0 hb6
        replace hz6 := Lib.hid hz6
        by_cases ho0 : o2 = ⟨#[]⟩
        · rw [if_pos ho0] at hy
          rw [decide_eq_true ho0] at he2
          clear ho0 hRR
          replace hy := Lib.hid hy
          go_wp2_with fail
          go_ret
          exact ⟨by rw [← hy.out]; rfl, hz6.out⟩
        · rw [if_neg ho0] at hy
          rw [decide_eq_false ho0] at he2
          by_cases h60 : 60 < o2.size
          · rw [if_pos h60] at hy
            have d1 : decide ((o2.size : Int) > 60) = true := decide_eq_true (by omega)
            clear ho0 hRR h60
            replace hy := Lib.hid hy
            go_wp2_with fail
            go_ret
            exact ⟨by rw [← hy.out]; rfl, hz6.out⟩
          · rw [if_neg h60] at hy
            have d1 : decide ((o2.size : Int) > 60) = false := decide_eq_false (by omega)
            clear ho0 hRR h60
            replace hy := Lib.hid hy
            go_wp2_with fail
            go_ret
            exact ⟨by rw [← hy.out]; rfl, hz6.out⟩
end Go.Proofs.Ytnmehmlenbbfbaa.mat
