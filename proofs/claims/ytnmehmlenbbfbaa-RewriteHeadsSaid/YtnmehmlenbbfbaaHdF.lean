/-
  Package heads: Same.
-/
import Derived.Test.YtnmehmlenbbfbaaHdE
namespace Go.Proofs.Ytnmehmlenbbfbaa.heads
open Go.ChangeShapes Go.WideShapes Go.ChangeAt Go.RowKit
set_option linter.unusedVariables false
set_option linter.unusedSimpArgs false

/-- Says B something else of this name? -/
def difB (B : List Hd) (x : Hd) : Bool := match getH B x.n with
  | some y => !(decide (y.v = x.v))
  | none => true
def sameF (A B : List Hd) : Bool := decide (A.length = B.length) && A.all fun x => !(difB B x)
theorem idx_any (p : Hd → Bool) (A : List Hd) : (idxN p A = -1 ∧ (A.all fun x => !(p x)) = true) ∨ ∃ k : Nat, idxN p A = k ∧ (A.all fun x => !(p x)) = false := by
  unfold idxN
  cases h : A.findIdx? p with
  | none =>
    rw [List.findIdx?_eq_none_iff] at h
    refine Or.inl ⟨rfl, ?_⟩
    rw [List.all_eq_true]
    exact fun x hx => by rw [h x hx]; rfl
  | some k =>
    rw [List.findIdx?_eq_some_iff_getElem] at h
    obtain ⟨hk, hp, -⟩ := h
    refine Or.inr ⟨k, rfl, ?_⟩
    rw [List.all_eq_false]
    exact ⟨A[k], List.getElem_mem _, by rw [hp]; simp⟩
set_option maxHeartbeats 1000000 in
theorem same1_any (x : Hd) (v : Value) (B : List Hd) (y : Nat) (w : World) (hy : w.heap[y]? = some (.cells #[v] 23 (0, 0))) (hw : HeadsAt w v B) (hl : B.length ≤ 1000) :
    Calls Try.prog 47 #[hv x, .pointer (some ⟨y, 0, none⟩)] w fun e w' => e = .returned (.bool (difB B x)) ∧ Bl w w' := by
  have hb := (Bl.rfl' w).al (oH x)
  have c0 := cell_at (blk_bl hy hb) 0
  simp only [List.getElem?_toArray, List.getElem?_cons_zero] at c0
  have G := get_any v B x.n _ (hw.bl hb) hl
  obtain ⟨a, g, o, cap, rfl, -, -, -⟩ := hw
  have hX := heap_alloc_new w (oH x)
  have x0 := cell_at hX 0
  simp only [List.getElem?_toArray, List.getElem?_cons_succ, List.getElem?_cons_zero] at x0
  unfold difB
  obtain ⟨xn, xv⟩ := x
  simp only at G
  unfold getV at G
  cases hg : getH B xn with
  | none =>
    rw [hg] at G
    simp only at G
    replace hb := Lib.hid hb
    replace G := Lib.hid G
    replace hX := Lib.hid hX
    clear hy hg
    go_enter Try.func47, Try.ntmps47
    go_wp2_with fail
    with_reducible refine (G.out).mono ?_
    rintro e w' ⟨rfl, hn⟩
    have hbz := hb.out.tr hn
    replace hbz := Lib.hid hbz
    clear hn
    go_wp2_with fail
    go_ret
    exact ⟨rfl, hbz.out⟩
  | some z =>
    rw [hg] at G
    simp only at G
    have he := txt_ne z.v xv
    replace hb := Lib.hid hb
    replace G := Lib.hid G
    replace hX := Lib.hid hX
    replace he := Lib.hid he
    clear hy hg
    go_enter Try.func47, Try.ntmps47
    go_wp2_with fail
    with_reducible refine (G.out).mono ?_
    rintro e w' ⟨rfl, hn⟩
    have hbz := hb.out.tr hn
    have x1 := cell_at (blk_bl hX.out hn) 1
    simp only [List.getElem?_toArray, List.getElem?_cons_succ, List.getElem?_cons_zero] at x1
    replace hbz := Lib.hid hbz
    clear hn
    go_wp2_with fail
    go_ret
    exact ⟨by show _ = Ending.returned (Value.bool (!(decide (z.v = xv)))); rw [← he.out]; rfl, hbz.out⟩
theorem cf_any (v : Value) (A : List Hd) (fn : Nat) (caps : Array Value) (p : Hd → Bool) (w : World) (hv : HeadsAt w v A) (hp : IsH w fn caps p) (hl : A.length ≤ 1000) :
    Calls Try.prog 46 #[v, .func (.func fn) #[] caps] w fun e w' => e = .returned (.bool (!(A.all fun x => !(p x)))) ∧ Bl w w' := by
  have C := Lib.hid (index_any v A fn caps p w hv hp hl)
  rcases idx_any p A with ⟨hi, ha⟩ | ⟨k, hi, ha⟩
  · rw [hi] at C
    rw [ha]
    clear hi ha hv hp
    go_enter Try.func46, Try.ntmps46
    go_wp2_with fail
    with_reducible refine (C.out).mono ?_
    rintro e w' ⟨rfl, hn⟩
    replace hn := Lib.hid hn
    go_wp2_with fail
    go_ret
    exact ⟨rfl, hn.out⟩
  · rw [hi] at C
    rw [ha]
    have hk : decide ((k : Int) ≥ 0) = true := decide_eq_true (by omega)
    clear hi ha hv hp
    go_enter Try.func46, Try.ntmps46
    go_wp2_with fail
    with_reducible refine (C.out).mono ?_
    rintro e w' ⟨rfl, hn⟩
    replace hn := Lib.hid hn
    go_wp2_with fail
    go_ret
    exact ⟨rfl, hn.out⟩
set_option maxHeartbeats 1000000 in
theorem hsame_any (v : Value) (A : List Hd) (u : Value) (B : List Hd) (w : World) (hv : HeadsAt w v A) (hu : HeadsAt w u B) (hl : A.length ≤ 1000) (hm : B.length ≤ 1000) :
    Calls Try.prog 26 #[v, u] w fun e w' => e = .returned (.bool (sameF A B)) ∧ Bl w w' := by
  obtain ⟨ba, bg, bo, bc, rfl, hur⟩ := hu
  replace hu : HeadsAt w (.slice ba B.length bc) B := ⟨ba, bg, bo, bc, rfl, hur⟩
  generalize hue : Value.slice ba B.length bc = u at hu
  have hb := (Bl.rfl' w).al (.cells #[u] 23)
  have hX := heap_alloc_new w (.cells #[u] 23)
  have C := cf_any v A 47 #[.pointer (some ⟨w.heap.size, 0, none⟩)] (difB B) _ (hv.bl hb) ⟨enters_of Try.func47 (by kernel_rfl) rfl, fun W hW x => same1_any x u B _ W (blk_bl hX hW) ((hu.bl hb).bl hW) hm⟩ hl
  have x0 := cell_at hX 0
  simp only [List.getElem?_toArray, List.getElem?_cons_succ, List.getElem?_cons_zero] at x0
  obtain ⟨aa, ag, ao, ac, rfl, -⟩ := id hv
  subst hue
  unfold sameF
  obtain ⟨q, hq⟩ : ∃ z_, (A.all fun x => !(difB B x)) = z_ := ⟨_, rfl⟩
  rw [hq] at C ⊢
  clear hq hv hu hur hX
  by_cases h : A.length = B.length
  · rw [decide_eq_true h, Bool.true_and]
    have e1 : ((A.length : Int) != (B.length : Int)) = false := by simp [h]
    replace C := Lib.hid C
    replace hb := Lib.hid hb
    replace h := Lib.hid h
    go_enter Try.func26, Try.ntmps26
    go_wp2_with fail
    with_reducible refine (C.out).mono ?_
    rintro e w' ⟨rfl, hn⟩
    have hbz := hb.out.tr hn
    replace hbz := Lib.hid hbz
    clear hn
    go_wp2_with fail
    go_ret
    exact ⟨by cases q <;> rfl, hbz.out⟩
  · rw [decide_eq_false h, Bool.false_and]
    have e1 : ((A.length : Int) != (B.length : Int)) = true := by simp; omega
    replace C := Lib.hid C
    replace hb := Lib.hid hb
    go_enter Try.func26, Try.ntmps26
    go_wp2_with fail
    go_ret
    exact ⟨rfl, hb.out⟩
end Go.Proofs.Ytnmehmlenbbfbaa.heads
