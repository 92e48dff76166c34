/-
  The document's set, Heads, Some.
-/
import Derived.Test.YtnmehmlenbbfbaaHdD0
import Derived.Test.YtnmehmlenbbfbaaHdJ
import Derived.BigQuiet
namespace Go.Proofs.Ytnmehmlenbbfbaa.heads
open Go.ChangeShapes Go.WideShapes Go.ChangeAt Go.RowKit
set_option linter.unusedVariables false
set_option linter.unusedSimpArgs false

def rep (h x : Hd) : Hd := if x.n = h.n then h else x
def set1R (A : List Hd) (h : Hd) : List Hd := if (A.any (isN h.n)) = true then A.map (rep h) else if A.length < 8 then A ++ [h] else A
theorem rep_take (A : List Hd) (h : Hd) (k : Nat) (hk : k < A.length) : (A.take (k + 1)).map (rep h) = (A.take k).map (rep h) ++ [rep h (A.getD k h0)] := by
  rw [List.take_succ_eq_append_getElem hk, List.map_append, List.getD_eq_getElem?_getD, List.getElem?_eq_getElem hk]; rfl
theorem any_take (A : List Hd) (p : Hd → Bool) (k : Nat) (hk : k < A.length) : (A.take (k + 1)).any p = ((A.take k).any p || p (A.getD k h0)) := by
  rw [List.take_succ_eq_append_getElem hk, List.any_append, List.getD_eq_getElem?_getD, List.getElem?_eq_getElem hk]; simp
theorem rep_no {A : List Hd} {h : Hd} (hn : A.any (isN h.n) = false) : A.map (rep h) = A := by
  rw [List.any_eq_false] at hn
  have : A.map (rep h) = A.map id := List.map_congr_left fun x hx => by
    have := hn x hx
    unfold rep
    rw [if_neg (fun e => this (decide_eq_true e))]
    rfl
  rw [this, List.map_id]

set_option maxRecDepth 20000 in
set_option maxHeartbeats 4000000 in
theorem rset1_any (v : Value) (A : List Hd) (h : Hd) (w : World) (hw : HeadsAt w v A) (hl : A.length ≤ 100) :
    Calls Try.prog 33 #[v, hv h] w fun e w' => ∃ x, e = .returned x ∧ OwnB hB 2 49 w' w.heap.size x (set1R A h) ∧ Bl w w' := by
  obtain ⟨iu, hiu, zu0, zu1, zu2⟩ := info_parts infoH
  obtain ⟨ba, bg, bo, bcap, rfl, b1, b2, br⟩ := hw
  have RC := Lib.hid (fun w' (hb : Bl w w') i hi => (br.bl hb).c hB_len h0 i hi)
  have RT := fun k hk => rep_take A h k hk
  have AT := fun k hk => any_take A (isN h.n) k hk
  have hRn := fun hn => rep_no (A := A) (h := h) hn
  have hS : set1R A h = if (A.any (isN h.n)) = true then A.map (rep h) else if A.length < 8 then A ++ [h] else A := rfl
  have hrep : ∀ x, rep h x = if x.n = h.n then h else x := fun x => rfl
  obtain ⟨hn, hu⟩ := h
  simp only at AT hRn hS hrep
  have hbx := (Bl.rfl' w).al (oH ⟨hn, hu⟩)
  have hX := heap_alloc_new w (oH ⟨hn, hu⟩)
  obtain ⟨W0, hW0⟩ : ∃ X, w.alloc (oH ⟨hn, hu⟩) = X := ⟨_, rfl⟩
  have hW0' : w.alloc (.cells #[.string hn, .string hu] 49) = W0 := hW0
  rw [hW0] at hbx hX
  obtain ⟨y, hy⟩ : ∃ y, w.heap.size = y := ⟨_, rfl⟩
  rw [hy] at hX
  have BX := Lib.hid (fun X (h : Bl W0 X) => (⟨cell_at (blk_bl hX h) 0, cell_at (blk_bl hX h) 1⟩ : X.cell? ⟨y, 0, none⟩ = some (S hn) ∧ X.cell? ⟨y, 1, none⟩ = some (S hu)))
  have hbs0 := hbx.size
  have hWs : W0.heap.size = y + 1 := by rw [← hW0, ← hy]; simp
  obtain ⟨Q, hQ⟩ : ∃ z_, (set1R A ⟨hn, hu⟩) = z_ := ⟨_, rfl⟩
  rw [hQ] at hS ⊢
  clear br hW0 hQ hX
  replace RT := Lib.hid RT
  replace AT := Lib.hid AT
  replace hRn := Lib.hid hRn
  replace hS := Lib.hid hS
  replace hrep := Lib.hid hrep
  replace hbx := Lib.hid hbx
  replace hWs := Lib.hid hWs
  go_enter Try.func33, Try.ntmps33
  go_wp2_with fail
  go_loopw [5, 6, 7] (fun o t i wr => ∃ k : Nat, k ≤ A.length ∧ i = I k ∧ t = .bool ((A.take k).any (isN hn)) ∧ OwnB hB 2 49 wr W0.heap.size o ((A.take k).map (rep ⟨hn, hu⟩)) ∧ Bl W0 wr) (fun _ _ i _ => A.length - (intOf i).toNat)
  case atStart => exact ⟨0, by omega, rfl, rfl, OwnB.nil _ _ _, Bl.rfl' _⟩
  case round =>
    obtain ⟨k, hk, rfl, rfl, hown, hbr⟩ := hrel
    have hbr0 := hbx.out.tr hbr
    have hln : ((A.take k).map (rep ⟨hn, hu⟩)).length = k := by rw [List.length_map, List.length_take]; omega
    by_cases hlt : k < A.length
    · obtain ⟨ha, hcc⟩ := RC.out _ hbr0 k hlt
      subst ha
      have c0 := hcc 0 (by decide)
      have c1 := hcc 1 (by decide)
      simp only [List.getElem?_cons_succ, List.getElem?_cons_zero, Nat.add_zero, ← Nat.add_assoc] at c0 c1
      have hst := RT.out k hlt
      have hat := AT.out k hlt
      have hrp := hrep.out (A.getD k h0)
      obtain ⟨x, hx⟩ : ∃ z_, (A.getD k h0) = z_ := ⟨_, rfl⟩
      rw [hx] at c0 c1 hst hat hrp
      obtain ⟨n, u⟩ := x
      simp only at c0 c1 hrp
      obtain ⟨x0, x1⟩ := BX.out wr hbr
      have he := txt_eq n hn
      have hat2 : isN hn ⟨n, u⟩ = decide (n = hn) := rfl
      rw [hat2] at hat
      have wk : IntKind.i64.wrap ((k : Int) + 1) = ((k + 1 : Nat) : Int) := by rw [IntKind.wrap_i64]; omega
      have hbs := hbr.size
      obtain ⟨ra, rg, rcap, rfl, hrg, hrc, hrc2, hRR⟩ := OwnB.row hown (by decide)
      replace hown : wr.ownsRow W0.heap.size 49 2 (.slice ra ((A.take k).map (rep ⟨hn, hu⟩)).length rcap) ((A.take k).map (rep ⟨hn, hu⟩)).length (flatB hB ((A.take k).map (rep ⟨hn, hu⟩))) := hown
      rw [hln] at hown ⊢
      obtain ⟨O, hO⟩ : ∃ z_, ((A.take k).map (rep ⟨hn, hu⟩)) = z_ := ⟨_, rfl⟩
      rw [hO] at hst hown hln
      have hOl : O.length = k := by rw [← hO, List.length_map, List.length_take]; omega
      obtain ⟨T, hT⟩ : ∃ z_, ((A.take k).any (isN hn)) = z_ := ⟨_, rfl⟩
      rw [hT] at hat ⊢
      clear hcc hx hO hT hRR hrg hat2 hln
      by_cases hnn : n = hn
      · rw [decide_eq_true hnn] at he hat
        rw [if_pos hnn] at hrp
        rw [hrp] at hst
        rw [Bool.or_true] at hat
        clear hnn hrp
        replace hst := Lib.hid hst
        replace hat := Lib.hid hat
        replace hown := Lib.hid hown
        replace hbr := Lib.hid hbr
        replace hbr0 := Lib.hid hbr0
        replace hOl := Lib.hid hOl
        go_wp2_with fail
        go_quiet (fail)
        have hownQ := own_below hown.out (Bl.drewN wr nq)
        have hbQ := hbr.out.drn nq
        have hbsQ := hbQ.size
        replace hownQ := Lib.hid hownQ
        replace hbQ := Lib.hid hbQ
        go_wp2_with (at_builtin; refine wpList_append_row rfl _ _ 23 rfl W0.heap.size 49 iu (.agg #[S ByteArray.empty, S ByteArray.empty]) 2 32 Try.underlying23 hiu zu0 zu1 zu2 rfl (by decide) _ k (flatB hB O) rfl hownQ.out #[S hn, S hu] _ rfl (by intro u hu; simp at hu; rcases hu with rfl | rfl <;> rfl) 1 (by first | rfl | simp [Act.eval, Act.put]) (by omega) (by omega) (by omega) ?_)
        intro b' cap' w7 hown7 hgrow7
        have hb7 := hbQ.out.grown hgrow7 (fun k hk => (hownQ.out.lt k hk).1)
        clear hgrow7
        replace hown7 := Lib.hid hown7
        replace hb7 := Lib.hid hb7
        go_wp2_with fail
        go_roundw
        case rel => exact ⟨k + 1, by omega, by first | rfl | go_num, by rw [hat.out], by unfold OwnB; rw [hst.out, flatB_snoc, List.length_append, hOl.out]; exact hown7.out, hb7.out⟩
        case measure => simp [intOf] <;> omega
      · rw [decide_eq_false hnn] at he hat
        rw [if_neg hnn] at hrp
        rw [hrp] at hst
        rw [Bool.or_false] at hat
        clear hnn hrp
        replace hst := Lib.hid hst
        replace hat := Lib.hid hat
        replace hown := Lib.hid hown
        replace hbr := Lib.hid hbr
        replace hbr0 := Lib.hid hbr0
        replace hOl := Lib.hid hOl
        go_wp2_with fail
        go_quiet (fail)
        have hownQ := own_below hown.out (Bl.drewN wr nq)
        have hbQ := hbr.out.drn nq
        have hbsQ := hbQ.size
        replace hownQ := Lib.hid hownQ
        replace hbQ := Lib.hid hbQ
        go_wp2_with (at_builtin; refine wpList_append_row rfl _ _ 23 rfl W0.heap.size 49 iu (.agg #[S ByteArray.empty, S ByteArray.empty]) 2 32 Try.underlying23 hiu zu0 zu1 zu2 rfl (by decide) _ k (flatB hB O) rfl hownQ.out #[S n, S u] _ rfl (by intro u hu; simp at hu; rcases hu with rfl | rfl <;> rfl) 1 (by first | rfl | simp [Act.eval, Act.put]) (by omega) (by omega) (by omega) ?_)
        intro b' cap' w7 hown7 hgrow7
        have hb7 := hbQ.out.grown hgrow7 (fun k hk => (hownQ.out.lt k hk).1)
        clear hgrow7
        replace hown7 := Lib.hid hown7
        replace hb7 := Lib.hid hb7
        go_wp2_with fail
        go_roundw
        case rel => exact ⟨k + 1, by omega, by first | rfl | go_num, by rw [hat.out], by unfold OwnB; rw [hst.out, flatB_snoc, List.length_append, hOl.out]; exact hown7.out, hb7.out⟩
        case measure => simp [intOf] <;> omega
    · obtain rfl : k = A.length := by omega
      rw [List.take_length] at hown hln ⊢
      obtain ⟨x0, x1⟩ := BX.out wr hbr
      have hbs := hbr.size
      have hSo := hS.out
      obtain ⟨ra, rg, rcap, rfl, hrg, hrc, hrc2, hRR⟩ := OwnB.row hown (by decide)
      replace hown : wr.ownsRow W0.heap.size 49 2 (.slice ra (A.map (rep ⟨hn, hu⟩)).length rcap) (A.map (rep ⟨hn, hu⟩)).length (flatB hB (A.map (rep ⟨hn, hu⟩))) := hown
      rw [hln] at hown ⊢
      have hWy : y ≤ W0.heap.size := by have := hWs.out; omega
      clear hRR hrg
      cases ht : A.any (isN hn) with
      | true =>
        rw [ht, if_pos rfl] at hSo
        rw [← hSo] at hown hln
        have hown2 : OwnB hB 2 49 wr y (.slice ra A.length rcap) Q := OwnB.base (by unfold OwnB; rw [hln]; exact hown) (by omega)
        clear ht
        replace hown2 := Lib.hid hown2
        replace hbr0 := Lib.hid hbr0
        replace hSo := Lib.hid hSo
        replace hown := Lib.hid hown
        go_wp2_with fail
        go_ret
        exact ⟨_, rfl, by first | exact hown2.out | (rw [hy]; exact hown2.out), hbr0.out⟩
      | false =>
        have hrn := hRn.out ht
        rw [hrn] at hown hln
        rw [ht, if_neg (by simp)] at hSo
        clear ht
        by_cases h8 : A.length < 8
        · rw [if_pos h8] at hSo
          have d8 : decide ((A.length : Int) < 8) = true := decide_eq_true (by omega)
          replace hown := Lib.hid hown
          replace hbr := Lib.hid hbr
          replace hbr0 := Lib.hid hbr0
          replace hSo := Lib.hid hSo
          replace hrn := Lib.hid hrn
          go_wp2_with (at_builtin; refine wpList_append_row rfl _ _ 23 rfl W0.heap.size 49 iu (.agg #[S ByteArray.empty, S ByteArray.empty]) 2 32 Try.underlying23 hiu zu0 zu1 zu2 rfl (by decide) _ A.length (flatB hB A) rfl hown.out #[S hn, S hu] _ rfl (by intro u hu; simp at hu; rcases hu with rfl | rfl <;> rfl) 1 (by first | rfl | simp [Act.eval, Act.put]) (by omega) (by omega) (by omega) ?_)
          intro b' cap' w7 hown7 hgrow7
          have hb7 := hbr.out.grown hgrow7 (fun k hk => (hown.out.lt k hk).1)
          have hown8 : OwnB hB 2 49 w7 y (.slice (some ⟨b', 0, none⟩) (A.length + 1) cap') Q := OwnB.base (b := W0.heap.size) (by unfold OwnB; rw [hSo.out, flatB_snoc, List.length_append]; exact hown7) (by omega)
          have hb8 := hbx.out.tr hb7
          clear hgrow7 hown7 hb7
          replace hown8 := Lib.hid hown8
          replace hb8 := Lib.hid hb8
          go_wp2_with fail
          go_ret
          exact ⟨_, rfl, by first | exact hown8.out | (rw [hy]; exact hown8.out), hb8.out⟩
        · rw [if_neg h8] at hSo
          have d8 : decide ((A.length : Int) < 8) = false := decide_eq_false (by omega)
          have hown2 : OwnB hB 2 49 wr y (.slice ra A.length rcap) Q := OwnB.base (b := W0.heap.size) (by unfold OwnB; rw [hSo]; exact hown) (by omega)
          replace hown2 := Lib.hid hown2
          replace hbr0 := Lib.hid hbr0
          replace hSo := Lib.hid hSo
          replace hown := Lib.hid hown
          replace hrn := Lib.hid hrn
          go_wp2_with fail
          go_ret
          exact ⟨_, rfl, by first | exact hown2.out | (rw [hy]; exact hown2.out), hbr0.out⟩
end Go.Proofs.Ytnmehmlenbbfbaa.heads
