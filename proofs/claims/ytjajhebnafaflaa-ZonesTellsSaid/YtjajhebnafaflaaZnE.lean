/-
  Package zones: Home and Panic.
-/
import Derived.Test.YtjajhebnafaflaaZnD
namespace Go.Proofs.Ytjajhebnafaflaa.zones
open Go.ChangeShapes Go.WideShapes Go.ChangeAt Go.RowKit Go.Shelf
set_option linter.unusedVariables false
set_option linter.unusedSimpArgs false

def cntZ (p : En → Bool) (R : List En) : Int := ((evZ p R R.length).length : Nat)
theorem ints_slice {w : World} {v : Value} {z : List Int} (h : IntsAt w v z) : ∃ a cap, v = .slice a z.length cap := by
  rcases h with ⟨a, cap, h, h1, -⟩ | ⟨b, off, cap, h, -⟩
  · exact ⟨a, cap, by rw [h, h1]⟩
  · exact ⟨_, _, h⟩
theorem cnt_bd (p : En → Bool) (R : List En) : 0 ≤ cntZ p R ∧ cntZ p R ≤ R.length := by
  have := evZ_len p R R.length
  unfold cntZ; omega
theorem cnt_le {p q : En → Bool} (R : List En) (h : ∀ x, p x = true → q x = true) : cntZ p R ≤ cntZ q R := by
  unfold cntZ
  rw [evZ_all, evZ_all, List.length_map, List.length_map]
  have : (R.filter p).length ≤ (R.filter q).length := by
    induction R with
    | nil => simp
    | cons x R ih =>
      cases hp : p x with
      | true => rw [List.filter_cons_of_pos hp, List.filter_cons_of_pos (h x hp)]; simp only [List.length_cons]; omega
      | false =>
        rw [List.filter_cons_of_neg (by rw [hp]; simp)]
        cases hq : q x with
        | true => rw [List.filter_cons_of_pos hq]; simp only [List.length_cons]; omega
        | false => rw [List.filter_cons_of_neg (by rw [hq]; simp)]; exact ih
  omega
def homeF (R : List En) (Z : List Int) (z : Int) : Int :=
  if cntZ (bothF z Z) R = 0 then 0 else if cntZ (bothF z Z) R = cntZ (wellF Z) R then 100 else 100 * cntZ (bothF z Z) R / cntZ (hereF z) R
def panicF (R : List En) (Z : List Int) (pc : Int) : Bool := decide (100 * cntZ (wellF Z) R < pc * R.length)

theorem cnt_any (v : Value) (R : List En) (fn : Nat) (caps : Array Value) (p : En → Bool) (w : World) (hv : EndsAt w v R) (hp : IsP w fn caps p) :
    Calls Try.prog 24 #[v, .func (.func fn) #[] caps] w fun e w' => e = .returned (I (cntZ p R)) ∧ Bl w w' := count_any v R fn caps p w hv hp

abbrev fHere (y : Nat) : Value := .func (.func 21) #[] #[.pointer (some ⟨y, 0, none⟩)]
abbrev fWell (y : Nat) : Value := .func (.func 22) #[] #[.pointer (some ⟨y, 0, none⟩)]
theorem st_here (y : Nat) (a : Addr) (w : World) (m : Mode) : (store a (fHere y) m).run Try.prog w = stored Try.prog w a (fHere y) m := run_store _ w a _ m rfl
theorem st_well (y : Nat) (a : Addr) (w : World) (m : Mode) : (store a (fWell y) m).run Try.prog w = stored Try.prog w a (fWell y) m := run_store _ w a _ m rfl
/-- What Home lays ahead of its counting. -/
abbrev w4 (w : World) (v : Value) (z : Int) : World :=
  (((w.alloc (.cells #[v] 22)).alloc (.cells #[I z] 3)).alloc (.cells #[fHere (w.heap.size + 1)] 38)).alloc (.cells #[fWell w.heap.size] 38)
theorem w4_facts (w : World) (v : Value) (z : Int) : Bl w (w4 w v z) ∧ (w4 w v z).heap[w.heap.size]? = some (.cells #[v] 22 (0, 0)) ∧ (w4 w v z).heap[w.heap.size + 1]? = some (.cells #[I z] 3 (0, 0)) ∧
    (w4 w v z).heap[w.heap.size + 2]? = some (.cells #[fHere (w.heap.size + 1)] 38 (0, 0)) ∧ (w4 w v z).heap[w.heap.size + 3]? = some (.cells #[fWell w.heap.size] 38 (0, 0)) := by
  obtain ⟨a, ha⟩ : ∃ a, w.alloc (.cells #[v] 22) = a := ⟨_, rfl⟩
  obtain ⟨b, hb⟩ : ∃ b, a.alloc (.cells #[I z] 3) = b := ⟨_, rfl⟩
  obtain ⟨c, hc⟩ : ∃ c, b.alloc (.cells #[fHere (w.heap.size + 1)] 38) = c := ⟨_, rfl⟩
  obtain ⟨d, hd⟩ : ∃ d, c.alloc (.cells #[fWell w.heap.size] 38) = d := ⟨_, rfl⟩
  have e : w4 w v z = d := by unfold w4; rw [ha, hb, hc, hd]
  have sa : a.heap.size = w.heap.size + 1 := by rw [← ha]; simp
  have sb : b.heap.size = w.heap.size + 2 := by rw [← hb]; simp [sa]
  have sc : c.heap.size = w.heap.size + 3 := by rw [← hc]; simp [sb]
  have na := heap_alloc_new w (.cells #[v] 22); rw [ha] at na
  have nb := heap_alloc_new a (.cells #[I z] 3); rw [hb, sa] at nb
  have nc := heap_alloc_new b (.cells #[fHere (w.heap.size + 1)] 38); rw [hc, sb] at nc
  have nd := heap_alloc_new c (.cells #[fWell w.heap.size] 38); rw [hd, sc] at nd
  have ba : Bl w a := by rw [← ha]; exact (Bl.rfl' _).al _
  have bb : Bl a b := by rw [← hb]; exact (Bl.rfl' _).al _
  have bc : Bl b c := by rw [← hc]; exact (Bl.rfl' _).al _
  have bd : Bl c d := by rw [← hd]; exact (Bl.rfl' _).al _
  rw [e]
  exact ⟨((ba.tr bb).tr bc).tr bd, blk_bl (blk_bl (blk_bl na bb) bc) bd, blk_bl (blk_bl nb bc) bd, blk_bl nc bd, nd⟩

set_option maxHeartbeats 4000000 in
theorem home_any (v : Value) (R : List En) (u : Value) (Z : List Int) (z : Int) (w : World) (hv : EndsAt w v R) (hu : IntsAt w u Z) (hm : Z.length ≤ maxLen) :
    Calls Try.prog 12 #[v, u, I z] w fun e w' => e = .returned (I (homeF R Z z)) ∧ Bl w w' := by
  obtain ⟨ua, uc, rfl⟩ := ints_slice hu
  obtain ⟨ea, eg, eo, ec, rfl, hv1⟩ := hv
  replace hv : EndsAt w (.slice ea R.length ec) R := ⟨ea, eg, eo, ec, rfl, hv1⟩
  clear hv1
  generalize hue : Value.slice ua Z.length uc = u at hu
  obtain ⟨b4, n0, n1, n2, n3⟩ := w4_facts w u z
  have c2 := fun X (h : Bl (w4 w u z) X) => cell_at (blk_bl n2 h) 0
  have c3 := fun X (h : Bl (w4 w u z) X) => cell_at (blk_bl n3 h) 0
  simp only [List.getElem?_toArray, List.getElem?_cons_zero] at c2 c3
  have C1 := fun (X : World) (hX : Bl (w4 w u z) X) => cnt_any _ R _ _ _ X ((hv.bl b4).bl hX) (isBoth X u z Z (w.heap.size + 1) w.heap.size (w.heap.size + 2) (w.heap.size + 3) (blk_bl n1 hX) (blk_bl n0 hX) (Rd.below (Rd.below hu b4) hX) hm (blk_bl n2 hX) (blk_bl n3 hX))
  have C2 := fun (X : World) (hX : Bl (w4 w u z) X) => cnt_any _ R _ _ _ X ((hv.bl b4).bl hX) (isWell X u Z w.heap.size (blk_bl n0 hX) (Rd.below (Rd.below hu b4) hX) hm)
  have C3 := fun (X : World) (hX : Bl (w4 w u z) X) => cnt_any _ R _ _ _ X ((hv.bl b4).bl hX) (isHere X z (w.heap.size + 1) (blk_bl n1 hX))
  have k1 := cnt_bd (bothF z Z) R
  have k2 := cnt_bd (wellF Z) R
  have k3 := cnt_bd (hereF z) R
  have k4 : cntZ (bothF z Z) R ≤ cntZ (hereF z) R := cnt_le R (fun x h => by simp only [bothF, Bool.and_eq_true] at h; exact h.1)
  have hll : R.length ≤ 1000 := by obtain ⟨_, _, _, _, _, _, _, h⟩ := hv; exact h
  have hl : (R.length : Int) ≤ 1000 := by omega
  unfold homeF
  obtain ⟨x, hx⟩ : ∃ z_, (cntZ (bothF z Z) R) = z_ := ⟨_, rfl⟩
  obtain ⟨y, hy⟩ : ∃ z_, (cntZ (wellF Z) R) = z_ := ⟨_, rfl⟩
  obtain ⟨h, hh⟩ : ∃ z_, (cntZ (hereF z) R) = z_ := ⟨_, rfl⟩
  simp only [hx, hy, hh] at *
  have C1' := C1 _ (Bl.rfl' _)
  have f2 := c2 _ (Bl.rfl' _)
  have f3 := c3 _ (Bl.rfl' _)
  replace C1 := Lib.hid C1
  replace C1' := Lib.hid C1'
  replace C2 := Lib.hid C2
  replace C3 := Lib.hid C3
  replace c2 := Lib.hid c2
  replace c3 := Lib.hid c3
  replace b4 := Lib.hid b4
  clear hv hu n0 n1 n2 n3 hx hy hh
  subst hue
  have s1 := st_here
  have s2 := st_well
  by_cases hx0 : x = 0
  · rw [if_pos hx0]
    have hd : (x == 0) = true := by simp [hx0]
    go_enter Try.func12, Try.ntmps12
    go_wp2_with fail
    refine C1'.out.mono ?_
    rintro e w2 ⟨rfl, hb2⟩
    have hb3 := b4.out.tr hb2
    clear hx0
    replace hb2 := Lib.hid hb2
    replace hb3 := Lib.hid hb3
    go_wp2_with fail
    go_ret
    exact ⟨rfl, hb3.out⟩
  · rw [if_neg hx0]
    have hd : (x == 0) = false := beq_eq_false_iff_ne.2 hx0
    by_cases hxy : x = y
    · rw [if_pos hxy]
      have hd2 : (x == y) = true := by simp [hxy]
      go_enter Try.func12, Try.ntmps12
      go_wp2_with fail
      refine C1'.out.mono ?_
      rintro e w2 ⟨rfl, hb2⟩
      have hb3 := b4.out.tr hb2
      have g2 := c2.out _ hb2
      have g3 := c3.out _ hb2
      have D2 := C2.out _ hb2
      clear hx0 hxy f2 f3
      replace hb2 := Lib.hid hb2
      replace hb3 := Lib.hid hb3
      replace D2 := Lib.hid D2
      go_wp2_with fail
      refine D2.out.mono ?_
      rintro e w3 ⟨rfl, hb4⟩
      have hb5 := hb3.out.tr hb4
      replace hb4 := Lib.hid hb4
      replace hb5 := Lib.hid hb5
      go_wp2_with fail
      go_ret
      exact ⟨rfl, hb5.out⟩
    · rw [if_neg hxy]
      have hd2 : (x == y) = false := beq_eq_false_iff_ne.2 hxy
      have hw : IntKind.i64.wrap (100 * x) = 100 * x := by rw [IntKind.wrap_i64]; omega
      have DN := Lib.hid (fun w => down_any (100 * x) h w (by omega) (by omega) (by omega) (by omega))
      go_enter Try.func12, Try.ntmps12
      go_wp2_with fail
      refine C1'.out.mono ?_
      rintro e w2 ⟨rfl, hb2⟩
      have hb3 := b4.out.tr hb2
      have g2 := c2.out _ hb2
      have g3 := c3.out _ hb2
      have D2 := C2.out _ hb2
      clear hx0 hxy f2 f3
      replace hb3 := Lib.hid hb3
      replace D2 := Lib.hid D2
      go_wp2_with fail
      refine D2.out.mono ?_
      rintro e w3 ⟨rfl, hb4⟩
      have hb5 := hb3.out.tr hb4
      have g2' := c2.out _ (hb2.tr hb4)
      have D3 := C3.out _ (hb2.tr hb4)
      clear g2 g3 hb2
      replace hb4 := Lib.hid hb4
      replace hb5 := Lib.hid hb5
      replace D3 := Lib.hid D3
      go_wp2_with fail
      refine D3.out.mono ?_
      rintro e w5 ⟨rfl, hb6⟩
      have hb7 := hb5.out.tr hb6
      replace hb6 := Lib.hid hb6
      replace hb7 := Lib.hid hb7
      go_wp2_with fail
      refine (DN.out _).mono ?_
      rintro e w' ⟨rfl, rfl⟩
      go_wp2_with fail
      go_ret
      exact ⟨rfl, hb7.out⟩

theorem panic_any (v : Value) (R : List En) (u : Value) (Z : List Int) (pc : Int) (w : World) (hv : EndsAt w v R) (hu : IntsAt w u Z) (hm : Z.length ≤ maxLen) (p0 : 0 ≤ pc) (p1 : pc ≤ 1000) :
    Calls Try.prog 17 #[v, u, I pc] w fun e w' => e = .returned (.bool (panicF R Z pc)) ∧ Bl w w' := by
  obtain ⟨ua, uc, rfl⟩ := ints_slice hu
  generalize hue : Value.slice ua Z.length uc = u at hu
  have hb := (Bl.rfl' w).al (.cells #[u] 22)
  have C := cnt_any v R _ _ _ _ (hv.bl hb) (isPWell _ u Z w.heap.size (heap_alloc_new w (.cells #[u] 22)) (Rd.below hu hb) hm)
  have k2 := cnt_bd (wellF Z) R
  obtain ⟨a, g, o, cap, rfl, -, -, hl⟩ := hv
  unfold panicF
  obtain ⟨x, hx⟩ : ∃ z_, (cntZ (wellF Z) R) = z_ := ⟨_, rfl⟩
  rw [hx] at C k2
  rw [hx]
  have hw : IntKind.i64.wrap (100 * x) = 100 * x := by rw [IntKind.wrap_i64]; omega
  have m0 : 0 ≤ pc * (R.length : Int) := Int.mul_nonneg p0 (by omega)
  have m1 : pc * (R.length : Int) ≤ 1000 * 1000 := Int.mul_le_mul p1 (by omega) (by omega) (by omega)
  have hw2 : IntKind.i64.wrap (pc * (R.length : Int)) = pc * R.length := by rw [IntKind.wrap_i64]; omega
  replace C := Lib.hid C
  replace hb := Lib.hid hb
  clear hx hu
  subst hue
  go_enter Try.func17, Try.ntmps17
  go_wp2_with fail
  refine C.out.mono ?_
  rintro e w2 ⟨rfl, hb2⟩
  have hb3 := hb.out.tr hb2
  replace hb2 := Lib.hid hb2
  replace hb3 := Lib.hid hb3
  go_wp2_with fail
  go_ret
  exact ⟨by first | rfl | simp [hw, hw2], hb3.out⟩
end Go.Proofs.Ytjajhebnafaflaa.zones
