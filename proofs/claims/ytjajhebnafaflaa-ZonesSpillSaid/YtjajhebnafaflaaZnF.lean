/-
  Package zones: Among.
-/
import Derived.Test.YtjajhebnafaflaaZnE
import Derived.Sort.OwnSortedInts
namespace Go.Proofs.Ytjajhebnafaflaa.zones
open Go.ChangeShapes Go.WideShapes Go.ChangeAt Go.RowKit Go.Shelf Go.Sort
set_option linter.unusedVariables false
set_option linter.unusedSimpArgs false
attribute [local go_sem] Oper.semAt_some

abbrev is (z : List Int) : List Value := z.map I
abbrev srt (z : List Int) : List Int := z.mergeSort fun x y => decide (x ≤ y)
theorem srt_len (z : List Int) : (srt z).length = z.length := List.length_mergeSort _

theorem sort_own (w : World) (base : Nat) (v : Value) (z : List Int) (h : w.ownsRow base 3 1 v z.length (is z)) (hm : z.length ≤ 1000) :
    Calls Try.prog 31 #[v] w fun e w' => e = .returned (.tuple #[]) ∧ w'.ownsRow base 3 1 v z.length (is (srt z)) ∧ w.grownBy w' v.ownBlock := by
  obtain ⟨h1, h2⟩ := h
  rcases h2 with ⟨hv, hn⟩ | ⟨g, cap, cur, hv, h4, h5, h6, h7, h8, h9⟩
  · have hz : z = [] := List.eq_nil_of_length_eq_zero hn
    subst hz
    subst hv
    refine (Try.slices_Sort_int_none _ _ w).mono ?_
    rintro e w' ⟨rfl, rfl⟩
    exact ⟨rfl, ⟨by simp, Or.inl ⟨rfl, rfl⟩⟩, gby_of_bl (Bl.rfl' _) _⟩
  · subst hv
    have h9' : cur.toList.take z.length = z.map (Value.int .i64) := by rw [Nat.mul_one] at h9; exact h9
    refine (Try.slices_Sort_int g 0 cap z w (holds_of_blockI h5 h9') (lt_of_block h5) (by omega)).mono ?_
    rintro e w' ⟨rfl, n, os, rfl⟩
    exact ⟨rfl, ownsRow_sortedI (srt_len z) h4 h5 h6 h7 h8, grownBy_sortedI _⟩

def alwaysF (x : En) : Bool := true
theorem always_any (x : En) (w : World) : Calls Try.prog 28 #[ev x] w fun e w' => e = .returned (.bool (alwaysF x)) ∧ Bl w w' := by
  obtain ⟨xi, xs, xz⟩ := x
  go_enter Try.func28, Try.ntmps28
  go_wp2_with fail
  go_ret
  exact ⟨rfl, (Bl.rfl' w).al _⟩
theorem isAlways (w : World) : IsP w 28 #[] alwaysF :=
  ⟨enters_of Try.func28 (by kernel_rfl) rfl, fun W hK _ x => by rw [Array.append_empty]; exact always_any x W⟩

abbrev amongF (Z : List Int) (z : Int) (hm : Bool) (x : En) : Bool := wellF Z x && ((x.z == z) == hm)
theorem among2_any (x : En) (v : Value) (z : Int) (Z : List Int) (hm : Bool) (yv yz yh : Nat) (w : World) (hz : w.heap[yz]? = some (.cells #[I z] 3 (0, 0))) (hy : w.heap[yv]? = some (.cells #[v] 22 (0, 0))) (hv : IntsAt w v Z) (hl : Z.length ≤ maxLen)
    (hh : w.heap[yh]? = some (.cells #[.bool hm] 4 (0, 0))) :
    Calls Try.prog 29 #[ev x, .pointer (some ⟨yv, 0, none⟩), .pointer (some ⟨yz, 0, none⟩), .pointer (some ⟨yh, 0, none⟩)] w fun e w' => e = .returned (.bool (amongF Z z hm x)) ∧ Bl w w' := by
  have hb := (Bl.rfl' w).al (oE x)
  have c0 := cell_at (blk_bl hy hb) 0
  have c1 := cell_at (blk_bl hz hb) 0
  have c2 := cell_at (blk_bl hh hb) 0
  simp only [List.getElem?_toArray, List.getElem?_cons_zero] at c0 c1 c2
  obtain ⟨x0, x1, x2⟩ := three (heap_alloc_new w (oE x))
  have C := contains_any _ v Z x.i (Rd.below hv hb) hl
  obtain ⟨xi, xs, xz⟩ := x
  unfold amongF
  obtain ⟨f, hf⟩ : ∃ z_, (wellF Z ⟨xi, xs, xz⟩) = z_ := ⟨_, rfl⟩
  rw [hf]
  change Z.contains xi = f at hf
  dsimp only at C
  rw [hf] at C
  replace C := Lib.hid C
  replace hb := Lib.hid hb
  clear hv hf hz hy hh
  cases f with
  | false =>
    go_enter Try.func29, Try.ntmps29
    go_wp2_with fail
    with_reducible refine (C.out).mono ?_
    rintro e w' ⟨rfl, rfl⟩
    go_wp2_with fail
    go_ret
    exact ⟨rfl, hb.out⟩
  | true =>
    go_enter Try.func29, Try.ntmps29
    go_wp2_with fail
    with_reducible refine (C.out).mono ?_
    rintro e w' ⟨rfl, rfl⟩
    go_wp2_with fail
    go_ret
    exact ⟨by first | rfl | simp, hb.out⟩
theorem isAmong (w : World) (v : Value) (z : Int) (Z : List Int) (hm : Bool) (yv yz yh : Nat) (hz : w.heap[yz]? = some (.cells #[I z] 3 (0, 0))) (hy : w.heap[yv]? = some (.cells #[v] 22 (0, 0))) (hv : IntsAt w v Z) (hl : Z.length ≤ maxLen)
    (hh : w.heap[yh]? = some (.cells #[.bool hm] 4 (0, 0))) : IsP w 29 #[.pointer (some ⟨yv, 0, none⟩), .pointer (some ⟨yz, 0, none⟩), .pointer (some ⟨yh, 0, none⟩)] (amongF Z z hm) :=
  ⟨enters_of Try.func29 (by kernel_rfl) rfl, fun W hK _ x => among2_any x v z Z hm yv yz yh W (hK.all _ _ hz rfl) (hK.all _ _ hy rfl) (Rd.keptC hv hK.size hK.all) hl (hK.all _ _ hh rfl)⟩
end Go.Proofs.Ytjajhebnafaflaa.zones
