/-
  Package zones: what is asked of an endpoint; Home and Panic.
-/
import Derived.Test.YtjajhebnafaflaaZnC
import Derived.Test.YtjajhebnafaflaaShelf
import Derived.Test.YtjajhebnafaflaaDown
namespace Go.Proofs.Ytjajhebnafaflaa.zones
open Go.ChangeShapes Go.WideShapes Go.ChangeAt Go.RowKit Go.Shelf
set_option linter.unusedVariables false
set_option linter.unusedSimpArgs false

theorem contains_any (w : World) (v : Value) (z : List Int) (x : Int) (hv : IntsAt w v z) (hm : z.length ≤ maxLen) :
    Calls Try.prog 23 #[v, I x] w fun e w' => e = .returned (.bool (z.contains x)) ∧ w = w' := by
  unfold maxLen at hm
  rcases hv with ⟨a, cap, rfl, h1, h2⟩ | ⟨b, off, cap, rfl, h1, h2, h3, h4⟩
  · have hz : z = [] := List.eq_nil_of_length_eq_zero h1
    subst hz
    exact (Try.slices_Contains_int_empty a cap x w).mono fun e w' h => ⟨h.1, h.2.symm⟩
  · have h := Try.slices_Contains_int b off z.length cap z x w (Nat.le_refl _) (by omega) (fun j hj => h4 j hj)
    rw [List.take_length] at h
    exact h.mono fun e w' h => ⟨h.1, h.2.symm⟩

theorem cell_cells {w : World} {b i : Nat} {v : Value} (h : w.cell? ⟨b, i, none⟩ = some v) : ∃ o, w.heap[b]? = some o ∧ o.isCells = true := by
  unfold World.cell? at h
  cases hb : w.heap[b]? with
  | none => simp [hb] at h
  | some o =>
    refine ⟨o, rfl, ?_⟩
    cases o <;> simp_all [Obj.isCells]
theorem Rd.keptC {w w' : World} {v : Value} {len n : Nat} {g : Nat → Value} (h : Rd w v len n g) (hs : w.heap.size ≤ w'.heap.size) (hk : ∀ (k : Nat) (o : Obj), w.heap[k]? = some o → o.isCells = true → w'.heap[k]? = some o) : Rd w' v len n g := by
  rcases h with h | ⟨b, off, cap, hv, hl, hm, hlt, hc⟩
  · exact Or.inl h
  · refine Or.inr ⟨b, off, cap, hv, hl, hm, by omega, fun i hi => ?_⟩
    obtain ⟨o, ho, hoc⟩ := cell_cells (hc i hi)
    rw [← hc i hi]
    unfold World.cell?
    rw [hk b o ho hoc, ho]
theorem KQ.all {w W : World} (h : KQ w.heap.size w.heap.size w W) (k : Nat) (o : Obj) (hk : w.heap[k]? = some o) (ho : o.isCells = true) : W.heap[k]? = some o :=
  h.same k o (lt_of_block hk) hk ho (by have := lt_of_block hk; omega)

abbrev hereF (z : Int) (x : En) : Bool := x.z == z
abbrev wellF (Z : List Int) (x : En) : Bool := Z.contains x.i
abbrev bothF (z : Int) (Z : List Int) (x : En) : Bool := hereF z x && wellF Z x

theorem here_any (x : En) (z : Int) (y : Nat) (w : World) (hy : w.heap[y]? = some (.cells #[I z] 3 (0, 0))) : Calls Try.prog 21 #[ev x, .pointer (some ⟨y, 0, none⟩)] w fun e w' => e = .returned (.bool (hereF z x)) ∧ Bl w w' := by
  have c0 := cell_at (blk_bl hy ((Bl.rfl' w).al (oE x))) 0
  simp only [List.getElem?_toArray, List.getElem?_cons_zero] at c0
  obtain ⟨x0, x1, x2⟩ := three (heap_alloc_new w (oE x))
  obtain ⟨xi, xs, xz⟩ := x
  go_enter Try.func21, Try.ntmps21
  go_wp2_with fail
  go_ret
  exact ⟨rfl, (Bl.rfl' w).al _⟩

theorem well_any (x : En) (v : Value) (Z : List Int) (y : Nat) (w : World) (hy : w.heap[y]? = some (.cells #[v] 22 (0, 0))) (hv : IntsAt w v Z) (hm : Z.length ≤ maxLen) : Calls Try.prog 22 #[ev x, .pointer (some ⟨y, 0, none⟩)] w fun e w' => e = .returned (.bool (wellF Z x)) ∧ Bl w w' := by
  have hb := (Bl.rfl' w).al (oE x)
  have c0 := cell_at (blk_bl hy hb) 0
  simp only [List.getElem?_toArray, List.getElem?_cons_zero] at c0
  obtain ⟨x0, x1, x2⟩ := three (heap_alloc_new w (oE x))
  have C := contains_any _ v Z x.i (Rd.below hv hb) hm
  obtain ⟨xi, xs, xz⟩ := x
  obtain ⟨f, hf⟩ : ∃ z_, (wellF Z ⟨xi, xs, xz⟩) = z_ := ⟨_, rfl⟩
  rw [hf]
  change Z.contains xi = f at hf
  dsimp only at C
  rw [hf] at C
  replace C := Lib.hid C
  replace hb := Lib.hid hb
  clear hv hf
  go_enter Try.func22, Try.ntmps22
  go_wp2_with fail
  with_reducible refine (C.out).mono ?_
  rintro e w' ⟨rfl, rfl⟩
  go_wp2_with fail
  go_ret
  exact ⟨rfl, hb.out⟩

theorem pwell_any (x : En) (v : Value) (Z : List Int) (y : Nat) (w : World) (hy : w.heap[y]? = some (.cells #[v] 22 (0, 0))) (hv : IntsAt w v Z) (hm : Z.length ≤ maxLen) : Calls Try.prog 32 #[ev x, .pointer (some ⟨y, 0, none⟩)] w fun e w' => e = .returned (.bool (wellF Z x)) ∧ Bl w w' := by
  have hb := (Bl.rfl' w).al (oE x)
  have c0 := cell_at (blk_bl hy hb) 0
  simp only [List.getElem?_toArray, List.getElem?_cons_zero] at c0
  obtain ⟨x0, x1, x2⟩ := three (heap_alloc_new w (oE x))
  have C := contains_any _ v Z x.i (Rd.below hv hb) hm
  obtain ⟨xi, xs, xz⟩ := x
  obtain ⟨f, hf⟩ : ∃ z_, (wellF Z ⟨xi, xs, xz⟩) = z_ := ⟨_, rfl⟩
  rw [hf]
  change Z.contains xi = f at hf
  dsimp only at C
  rw [hf] at C
  replace C := Lib.hid C
  replace hb := Lib.hid hb
  clear hv hf
  go_enter Try.func32, Try.ntmps32
  go_wp2_with fail
  with_reducible refine (C.out).mono ?_
  rintro e w' ⟨rfl, rfl⟩
  go_wp2_with fail
  go_ret
  exact ⟨rfl, hb.out⟩

theorem isHere (w : World) (z : Int) (y : Nat) (hy : w.heap[y]? = some (.cells #[I z] 3 (0, 0))) : IsP w 21 #[.pointer (some ⟨y, 0, none⟩)] (hereF z) :=
  ⟨enters_of Try.func21 (by kernel_rfl) rfl, fun W hK _ x => here_any x z y W (hK.all y _ hy rfl)⟩
theorem isWell (w : World) (v : Value) (Z : List Int) (y : Nat) (hy : w.heap[y]? = some (.cells #[v] 22 (0, 0))) (hv : IntsAt w v Z) (hm : Z.length ≤ maxLen) : IsP w 22 #[.pointer (some ⟨y, 0, none⟩)] (wellF Z) :=
  ⟨enters_of Try.func22 (by kernel_rfl) rfl, fun W hK _ x => well_any x v Z y W (hK.all y _ hy rfl) (Rd.keptC hv hK.size hK.all) hm⟩
theorem isPWell (w : World) (v : Value) (Z : List Int) (y : Nat) (hy : w.heap[y]? = some (.cells #[v] 22 (0, 0))) (hv : IntsAt w v Z) (hm : Z.length ≤ maxLen) : IsP w 32 #[.pointer (some ⟨y, 0, none⟩)] (wellF Z) :=
  ⟨enters_of Try.func32 (by kernel_rfl) rfl, fun W hK _ x => pwell_any x v Z y W (hK.all y _ hy rfl) (Rd.keptC hv hK.size hK.all) hm⟩

theorem both_any (x : En) (v : Value) (z : Int) (Z : List Int) (yz yv yh yw : Nat) (w : World) (hz : w.heap[yz]? = some (.cells #[I z] 3 (0, 0))) (hy : w.heap[yv]? = some (.cells #[v] 22 (0, 0))) (hv : IntsAt w v Z) (hm : Z.length ≤ maxLen)
    (hh : w.heap[yh]? = some (.cells #[.func (.func 21) #[] #[.pointer (some ⟨yz, 0, none⟩)]] 38 (0, 0)))
    (hw : w.heap[yw]? = some (.cells #[.func (.func 22) #[] #[.pointer (some ⟨yv, 0, none⟩)]] 38 (0, 0))) :
    Calls Try.prog 25 #[ev x, .pointer (some ⟨yh, 0, none⟩), .pointer (some ⟨yw, 0, none⟩)] w fun e w' => e = .returned (.bool (bothF z Z x)) ∧ Bl w w' := by
  have hb := (Bl.rfl' w).al (oE x)
  have c0 := cell_at (blk_bl hh hb) 0
  have c1 := cell_at (blk_bl hw hb) 0
  have c1' := fun w' (h : Bl (w.alloc (oE x)) w') => cell_at (blk_bl (blk_bl hw hb) h) 0
  have x3 := fun w' (h : Bl (w.alloc (oE x)) w') => three (blk_bl (heap_alloc_new w (oE x)) h)
  simp only [List.getElem?_toArray, List.getElem?_cons_zero] at c0 c1 c1'
  have H := here_any x z yz _ (blk_bl hz hb)
  have W := fun w' (h : Bl (w.alloc (oE x)) w') => well_any x v Z yv w' (blk_bl (blk_bl hy hb) h) (Rd.below (Rd.below hv hb) h) hm
  obtain ⟨xi, xs, xz⟩ := x
  obtain ⟨f, hf⟩ : ∃ z_, (hereF z ⟨xi, xs, xz⟩) = z_ := ⟨_, rfl⟩
  obtain ⟨k, hk⟩ : ∃ z_, (wellF Z ⟨xi, xs, xz⟩) = z_ := ⟨_, rfl⟩
  unfold bothF
  rw [hf] at H ⊢
  rw [hk] at W ⊢
  clear hv hf hk hz hy hh hw
  replace H := Lib.hid H
  replace W := Lib.hid W
  replace hb := Lib.hid hb
  replace c1' := Lib.hid c1'
  replace x3 := Lib.hid x3
  cases f with
  | false =>
    go_enter Try.func25, Try.ntmps25
    go_wp2_with fail
    with_reducible refine (H.out).mono ?_
    rintro e w' ⟨rfl, h2⟩
    have h3 := hb.out.tr h2
    replace h2 := Lib.hid h2
    replace h3 := Lib.hid h3
    go_wp2_with fail
    go_ret
    exact ⟨rfl, h3.out⟩
  | true =>
    go_enter Try.func25, Try.ntmps25
    go_wp2_with fail
    with_reducible refine (H.out).mono ?_
    rintro e w2 ⟨rfl, h2⟩
    have h3 := hb.out.tr h2
    have W2 := W.out _ h2
    have d1 := c1'.out _ h2
    obtain ⟨x0, x1, x2⟩ := x3.out _ h2
    clear c1
    replace h2 := Lib.hid h2
    replace h3 := Lib.hid h3
    replace W2 := Lib.hid W2
    go_wp2_with fail
    with_reducible refine (W2.out).mono ?_
    rintro e w3 ⟨rfl, h4⟩
    have h5 := h3.out.tr h4
    replace h4 := Lib.hid h4
    replace h5 := Lib.hid h5
    go_wp2_with fail
    go_ret
    exact ⟨by first | rfl | simp, h5.out⟩
theorem isBoth (w : World) (v : Value) (z : Int) (Z : List Int) (yz yv yh yw : Nat) (hz : w.heap[yz]? = some (.cells #[I z] 3 (0, 0))) (hy : w.heap[yv]? = some (.cells #[v] 22 (0, 0))) (hv : IntsAt w v Z) (hm : Z.length ≤ maxLen)
    (hh : w.heap[yh]? = some (.cells #[.func (.func 21) #[] #[.pointer (some ⟨yz, 0, none⟩)]] 38 (0, 0)))
    (hw : w.heap[yw]? = some (.cells #[.func (.func 22) #[] #[.pointer (some ⟨yv, 0, none⟩)]] 38 (0, 0))) :
    IsP w 25 #[.pointer (some ⟨yh, 0, none⟩), .pointer (some ⟨yw, 0, none⟩)] (bothF z Z) :=
  ⟨enters_of Try.func25 (by kernel_rfl) rfl, fun W hK _ x => both_any x v z Z yz yv yh yw W (hK.all _ _ hz rfl) (hK.all _ _ hy rfl) (Rd.keptC hv hK.size hK.all) hm (hK.all _ _ hh rfl) (hK.all _ _ hw rfl)⟩
end Go.Proofs.Ytjajhebnafaflaa.zones
