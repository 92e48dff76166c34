/-
  Package heads: Drop.
-/
import Derived.Test.YtnmehmlenbbfbaaHdD
import Derived.Test.YtnmehmlenbbfbaaShelf
namespace Go.Proofs.Ytnmehmlenbbfbaa.heads
open Go.ChangeShapes Go.WideShapes Go.ChangeAt Go.RowKit
set_option linter.unusedVariables false
set_option linter.unusedSimpArgs false

abbrev tB (s : ByteArray) : List Value := [S s]
theorem tB_len : ∀ s, (tB s).length = 1 := fun _ => rfl
/-- A slice of texts. -/
def TextsAt (w : World) (v : Value) (N : List ByteArray) : Prop := ∃ a g o cap, v = .slice a N.length cap ∧ RowB tB 1 w g o a N
theorem TextsAt.bl {w w' : World} {v : Value} {N : List ByteArray} (h : TextsAt w v N) (hb : Bl w w') : TextsAt w' v N := by
  obtain ⟨a, g, o, cap, h1, h4⟩ := h
  exact ⟨a, g, o, cap, h1, h4.bl hb⟩
def inT (N : List ByteArray) (s : ByteArray) : Bool := N.any fun y => decide (y = s)
theorem inT_iff {N : List ByteArray} {s : ByteArray} : inT N s = true ↔ s ∈ N := by
  unfold inT
  rw [List.any_eq_true]
  constructor
  · rintro ⟨x, h1, h2⟩
    rw [← of_decide_eq_true h2]; exact h1
  · exact fun h => ⟨s, h, decide_eq_true rfl⟩
theorem contains_is (N : List ByteArray) (s : ByteArray) : Lib.containsS N s = inT N s := by
  rw [Bool.eq_iff_iff, Lib.containsS_iff, inT_iff]
theorem contains_any (v : Value) (N : List ByteArray) (s : ByteArray) (w : World) (hv : TextsAt w v N) (hl : N.length ≤ 1000) :
    Calls Try.prog 49 #[v, S s] w fun e w' => e = .returned (.bool (inT N s)) ∧ w = w' := by
  obtain ⟨a, g, o, cap, rfl, hr⟩ := hv
  by_cases h0 : N.length = 0
  · have hN : N = [] := List.eq_nil_of_length_eq_zero h0
    subst hN
    exact (Try.slices_Contains_string_empty a cap s w).mono fun e w' ⟨h1, h2⟩ => ⟨by rw [h1]; rfl, h2.symm⟩
  · have hc := fun j (hj : j < N.length) => hr.c tB_len ByteArray.empty j hj
    obtain ⟨rfl, -⟩ := hc 0 (by omega)
    refine (Try.slices_Contains_string g o N.length cap N s w (Nat.le_refl _) (by omega) (fun j hj => ?_)).mono fun e w' ⟨h1, h2⟩ => ⟨by rw [h1, List.take_length, contains_is], h2.symm⟩
    have := (hc j hj).2 0 (by decide)
    rw [Nat.mul_one, Nat.add_zero] at this
    exact this

def dropF (A : List Hd) (N : List ByteArray) : List Hd := A.filter fun x => !(inT N x.n)
theorem drop_take (A : List Hd) (N : List ByteArray) (k : Nat) (h : k < A.length) : dropF (A.take (k + 1)) N = dropF (A.take k) N ++ if inT N (A.getD k h0).n = true then [] else [A.getD k h0] := by
  unfold dropF
  rw [List.take_succ_eq_append_getElem h, List.filter_append, List.getD_eq_getElem?_getD, List.getElem?_eq_getElem h]
  congr 1
  show List.filter _ [A[k]] = if inT N (A[k]).n = true then [] else [A[k]]
  cases hh : inT N (A[k]).n <;> simp [hh]
theorem dropF_len (A : List Hd) (N : List ByteArray) : (dropF A N).length ≤ A.length := List.length_filter_le _ _
set_option maxRecDepth 20000 in
set_option maxHeartbeats 4000000 in
theorem drop_any (v : Value) (A : List Hd) (u : Value) (N : List ByteArray) (w : World) (hv : HeadsAt w v A) (hu : TextsAt w u N) (hl : A.length ≤ 100) (hm : N.length ≤ 100) :
    Calls Try.prog 35 #[v, u] w fun e w' => ∃ x, e = .returned x ∧ OwnB hB 2 49 w' w.heap.size x (dropF A N) ∧ Bl w w' := by
  obtain ⟨iu, hiu, zu0, zu1, zu2⟩ := info_parts infoH
  obtain ⟨ba, bg, bo, bcap, rfl, b1, b2, br⟩ := hv
  have RC := Lib.hid (fun w' (hb : Bl w w') i hi => (br.bl hb).c hB_len h0 i hi)
  have CT := Lib.hid (fun s w' (hb : Bl w w') => contains_any u N s w' (hu.bl hb) (by omega))
  have DT := fun k h => drop_take A N k h
  clear br hu
  replace DT := Lib.hid DT
  go_enter Try.func35, Try.ntmps35
  go_wp2_with fail
  go_loopw [5, 10] (fun o i wr => ∃ k : Nat, k ≤ A.length ∧ i = I k ∧ OwnB hB 2 49 wr w.heap.size o (dropF (A.take k) N) ∧ Bl w wr) (fun _ i _ => A.length - (intOf i).toNat)
  case atStart => exact ⟨0, by omega, rfl, OwnB.nil _ _ _, Bl.rfl' _⟩
  case round =>
    obtain ⟨k, hk, rfl, hown, hbr⟩ := hrel
    by_cases hlt : k < A.length
    · obtain ⟨ha, hcc⟩ := RC.out _ hbr k hlt
      subst ha
      have c0 := hcc 0 (by decide)
      have c1 := hcc 1 (by decide)
      simp only [List.getElem?_cons_succ, List.getElem?_cons_zero, Nat.add_zero, ← Nat.add_assoc] at c0 c1
      have hst := DT.out k hlt
      have hln : (dropF (A.take k) N).length ≤ 100 := Nat.le_trans (dropF_len _ _) (by rw [List.length_take]; omega)
      obtain ⟨x, hx⟩ : ∃ z_, (A.getD k h0) = z_ := ⟨_, rfl⟩
      rw [hx] at c0 c1 hst
      obtain ⟨n, u'⟩ := x
      simp only at c0 c1 hst
      obtain ⟨O, hO⟩ : ∃ z_, (dropF (A.take k) N) = z_ := ⟨_, rfl⟩
      rw [hO] at hown hst hln
      have hbs := hbr.size
      have hal := (Bl.rfl' wr).al (oH ⟨n, u'⟩)
      have hX := heap_alloc_new wr (oH ⟨n, u'⟩)
      have x0 := cell_at hX 0
      have x1 := cell_at hX 1
      simp only [List.getElem?_toArray, List.getElem?_cons_succ, List.getElem?_cons_zero] at x0 x1
      have wk : IntKind.i64.wrap ((k : Int) + 1) = ((k + 1 : Nat) : Int) := by rw [IntKind.wrap_i64]; omega
      have hb1 := hbr.tr hal
      have C := CT.out n _ hb1
      obtain ⟨ra, rg, rcap, rfl, hrg, hrc, hrc2, hRR⟩ := OwnB.row hown (by decide)
      have hown1 := OwnB.bl hown hal
      replace hown1 : (wr.alloc (oH ⟨n, u'⟩)).ownsRow w.heap.size 49 2 (.slice ra O.length rcap) O.length (flatB hB O) := hown1
      have hbs1 := hb1.size
      obtain ⟨b, hbb⟩ : ∃ z_, (inT N n) = z_ := ⟨_, rfl⟩
      rw [hbb] at C hst
      obtain ⟨W0, hW0⟩ : ∃ X, wr.alloc (oH ⟨n, u'⟩) = X := ⟨_, rfl⟩
      have hW0' : wr.alloc (.cells #[.string n, .string u'] 49) = W0 := hW0
      rw [hW0] at x0 x1 hb1 C hown1 hbs1
      clear hcc hx hO hown hRR hrg hbb hX hal hW0
      cases b with
      | true =>
        rw [if_pos rfl, List.append_nil] at hst
        replace hst := Lib.hid hst
        replace hown1 := Lib.hid hown1
        replace hb1 := Lib.hid hb1
        replace hbr := Lib.hid hbr
        replace C := Lib.hid C
        go_wp2_with fail
        with_reducible refine (C.out).mono ?_
        rintro e w' ⟨rfl, rfl⟩
        go_wp2_with fail
        go_roundw
        case rel => exact ⟨k + 1, by omega, by first | rfl | go_num, by rw [hst.out]; exact hown1.out, hb1.out⟩
        case measure => simp [intOf] <;> omega
      | false =>
        rw [if_neg (by simp)] at hst
        replace hst := Lib.hid hst
        replace hown1 := Lib.hid hown1
        replace hb1 := Lib.hid hb1
        replace hbr := Lib.hid hbr
        replace C := Lib.hid C
        go_wp2_with fail
        with_reducible refine (C.out).mono ?_
        rintro e w' ⟨rfl, rfl⟩
        go_wp2_with (at_builtin; refine wpList_append_row rfl _ _ 23 rfl w.heap.size 49 iu (.agg #[S ByteArray.empty, S ByteArray.empty]) 2 32 Try.underlying23 hiu zu0 zu1 zu2 rfl (by decide) _ O.length (flatB hB O) rfl hown1.out #[S n, S u'] _ rfl (by intro u hu; simp at hu; rcases hu with rfl | rfl <;> rfl) 1 (by first | rfl | simp [Act.eval, Act.put]) (by omega) (by omega) (by omega) ?_)
        intro b' cap' w7 hown7 hgrow7
        have hb7 := hb1.out.grown hgrow7 (fun k hk => (hown1.out.lt k hk).1)
        clear hgrow7
        replace hown7 := Lib.hid hown7
        replace hb7 := Lib.hid hb7
        go_wp2_with fail
        go_roundw
        case rel => exact ⟨k + 1, by omega, by first | rfl | go_num, by rw [hst.out]; unfold OwnB; rw [flatB_snoc, List.length_append]; exact hown7.out, hb7.out⟩
        case measure => simp [intOf] <;> omega
    · obtain rfl : k = A.length := by omega
      rw [List.take_length] at hown
      replace hown := Lib.hid hown
      replace hbr := Lib.hid hbr
      go_wp2_with fail
      go_ret
      exact ⟨_, rfl, hown.out, hbr.out⟩
end Go.Proofs.Ytnmehmlenbbfbaa.heads
