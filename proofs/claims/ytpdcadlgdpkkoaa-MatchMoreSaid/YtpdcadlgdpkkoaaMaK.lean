/-
  Package match: Fits.
-/
import Derived.Test.YtpdcadlgdpkkoaaMaG
namespace Go.Proofs.Ytpdcadlgdpkkoaa.mat
open Go.ChangeShapes Go.WideShapes Go.ChangeAt Go.RowKit
open Go.Proofs.Ytpdcadlgdpkkoaa.heads
set_option linter.unusedVariables false
set_option linter.unusedSimpArgs false

/-- What is asked is not there. -/
def missF (A : List Hd) (x : Hd) : Bool := match getH A x.n with
  | none => true
  | some y => !(decide (x.v = ⟨#[]⟩)) && !(decide (y.v = x.v))
set_option maxHeartbeats 2000000 in
theorem answers1_any (x : Hd) (A : List Hd) (u : Value) (y : Nat) (w : World) (hy : w.heap[y]? = some (.cells #[u] 22 (0, 0))) (hu : HeadsAt w u A) (hl : A.length ≤ 1000) :
    Calls Try.prog 44 #[hv x, .pointer (some ⟨y, 0, none⟩)] w fun e w' => e = .returned (.bool (missF A x)) ∧ Bl w w' := by
  have hb := (Bl.rfl' w).al (oH x)
  have c0 := cell_at (blk_bl hy hb) 0
  have hX := heap_alloc_new w (oH x)
  have x0 := cell_at hX 0
  simp only [List.getElem?_toArray, List.getElem?_cons_succ, List.getElem?_cons_zero] at c0 x0
  have G := get_any u A x.n _ (hu.bl hb) hl
  obtain ⟨a, g, o, cap, rfl, -, -, -⟩ := hu
  obtain ⟨xn, xv⟩ := x
  have hm : missF A ⟨xn, xv⟩ = match getH A xn with
    | none => true
    | some y => !(decide (xv = ⟨#[]⟩)) && !(decide (y.v = xv)) := rfl
  rw [hm]
  clear hm hy
  obtain ⟨w1, h1⟩ : ∃ X, w.alloc (oH ⟨xn, xv⟩) = X := ⟨_, rfl⟩
  have h1' : w.alloc (.cells #[.string xn, .string xv] 42) = w1 := h1
  simp only at G hX hb c0 x0
  rw [h1] at G hX hb c0 x0
  rcases hg : getH A xn with _ | z
  · have hv' : getV A xn = .tuple #[S ByteArray.empty, .bool false] := by unfold getV; rw [hg]
    rw [hv'] at G
    clear hg hv' h1
    replace G := Lib.hid G
    replace hb := Lib.hid hb
    replace hX := Lib.hid hX
    go_enter Try.func44, Try.ntmps44
    go_wp2_with fail
    with_reducible refine (G.out).mono ?_
    rintro e w2 ⟨rfl, hn⟩
    have hb2 := hb.out.tr hn
    replace hb2 := Lib.hid hb2
    clear hn
    go_wp2_with fail
    go_ret
    exact ⟨rfl, hb2.out⟩
  · have hv' : getV A xn = .tuple #[S z.v, .bool true] := by unfold getV; rw [hg]
    rw [hv'] at G
    simp only
    obtain ⟨zn, zv⟩ := z
    simp only at G ⊢
    have n1 := eq_nil xv
    have n2 := txt_eq zv xv
    obtain ⟨b1, hb1⟩ : ∃ z_, (decide (xv = ⟨#[]⟩)) = z_ := ⟨_, rfl⟩
    rw [hb1] at n1 ⊢
    obtain ⟨b2, hb2⟩ : ∃ z_, (decide (zv = xv)) = z_ := ⟨_, rfl⟩
    rw [hb2] at n2 ⊢
    clear hg hv' h1 hb1 hb2
    replace G := Lib.hid G
    replace hb := Lib.hid hb
    replace hX := Lib.hid hX
    go_enter Try.func44, Try.ntmps44
    go_wp2_with fail
    with_reducible refine (G.out).mono ?_
    rintro e w2 ⟨rfl, hn⟩
    have hb2 := hb.out.tr hn
    have hX2 := blk_bl hX.out hn
    have y1 := cell_at hX2 1
    simp only [List.getElem?_toArray, List.getElem?_cons_succ, List.getElem?_cons_zero] at y1
    replace hb2 := Lib.hid hb2
    clear hn hX2
    cases b1 <;> cases b2
    all_goals
      go_wp2_with fail
      go_ret
      exact ⟨rfl, hb2.out⟩
theorem isMiss (A : List Hd) (u : Value) (y : Nat) (w : World) (hy : w.heap[y]? = some (.cells #[u] 22 (0, 0))) (hu : HeadsAt w u A) (hl : A.length ≤ 1000) : IsH w 44 #[.pointer (some ⟨y, 0, none⟩)] (missF A) :=
  ⟨enters_of Try.func44 (by kernel_rfl) rfl, fun W hb x => answers1_any x A u y W (blk_bl hy hb) (hu.bl hb) hl⟩
theorem any_idx (p : Hd → Bool) (A : List Hd) : decide (idxN p A ≥ 0) = A.any p := by
  unfold idxN
  rcases h : A.findIdx? p with _ | k
  · rw [List.findIdx?_eq_none_iff] at h
    have : A.any p = false := by
      rw [List.any_eq_false]
      intro x hx
      simp [h x hx]
    rw [this]; rfl
  · rw [List.findIdx?_eq_some_iff_getElem] at h
    obtain ⟨hk, hp, -⟩ := h
    have : A.any p = true := List.any_eq_true.2 ⟨A[k], List.getElem_mem hk, hp⟩
    rw [this]
    exact decide_eq_true (by show (k : Int) ≥ 0; omega)
theorem containsf_any (v : Value) (A : List Hd) (fn : Nat) (caps : Array Value) (p : Hd → Bool) (w : World) (hv : HeadsAt w v A) (hp : IsH w fn caps p) (hl : A.length ≤ 1000) :
    Calls Try.prog 43 #[v, .func (.func fn) #[] caps] w fun e w' => e = .returned (.bool (A.any p)) ∧ Bl w w' := by
  have C := Lib.hid (index_any v A fn caps p w hv hp hl)
  obtain ⟨a, g, o, cap, rfl, -, -, -⟩ := hv
  have ha := any_idx p A
  obtain ⟨i, hi⟩ : ∃ z_, (idxN p A) = z_ := ⟨_, rfl⟩
  rw [hi] at ha
  simp only [hi] at C
  rw [← ha]
  clear ha hi hp
  go_enter Try.func43, Try.ntmps43
  go_wp2_with fail
  with_reducible refine (C.out).mono ?_
  rintro e w' ⟨rfl, hn⟩
  replace hn := Lib.hid hn
  go_wp2_with fail
  go_ret
  exact ⟨rfl, hn.out⟩
theorem answers_any (v : Value) (A : List Hd) (u : Value) (H : List Hd) (w : World) (hv : HeadsAt w v A) (hu : HeadsAt w u H) (hl : A.length ≤ 1000) (hm : H.length ≤ 1000) :
    Calls Try.prog 34 #[v, u] w fun e w' => e = .returned (.bool (!(H.any (missF A)))) ∧ Bl w w' := by
  have hb := (Bl.rfl' w).al (.cells #[v] 22)
  have hX := heap_alloc_new w (.cells #[v] 22)
  have C := containsf_any u H _ _ _ _ (hu.bl hb) (isMiss A v w.heap.size _ hX (hv.bl hb) hl) hm
  obtain ⟨a, g, o, cap, rfl, -, -, -⟩ := hv
  obtain ⟨a', g', o', cap', rfl, -, -, -⟩ := hu
  obtain ⟨r, hr⟩ : ∃ z_, (H.any (missF A)) = z_ := ⟨_, rfl⟩
  simp only [hr] at C
  rw [hr]
  clear hr hX
  replace C := Lib.hid C
  replace hb := Lib.hid hb
  go_enter Try.func34, Try.ntmps34
  go_wp2_with fail
  with_reducible refine (C.out).mono ?_
  rintro e w' ⟨rfl, hn⟩
  have hz := hb.out.tr hn
  replace hz := Lib.hid hz
  clear hn
  go_wp2_with fail
  go_ret
  exact ⟨rfl, hz.out⟩
def fitsF (p : ByteArray) (x : Bool) (H : List Hd) (path : ByteArray) (A : List Hd) : Bool := onF p x path && !(H.any (missF A))
set_option maxHeartbeats 2000000 in
theorem fits_any (p : ByteArray) (x : Bool) (u : Value) (H : List Hd) (path : ByteArray) (v : Value) (A : List Hd) (w : World) (hs : path.size ≤ 1000000) (hp : p.size ≤ 1000000) (hu : HeadsAt w u H) (hv : HeadsAt w v A) (hl : A.length ≤ 1000) (hm : H.length ≤ 1000) :
    Calls Try.prog 22 #[mV p x u, S path, v] w fun e w' => e = .returned (.bool (fitsF p x H path A)) ∧ Bl w w' := by
  have hb := (Bl.rfl' w).al (oM p x u)
  have hX := heap_alloc_new w (oM p x u)
  have ON := on_any p x u path (w.alloc (oM p x u)) hs hp
  have AN := fun w' (hb : Bl w w') => answers_any v A u H w' (hv.bl hb) (hu.bl hb) hl hm
  obtain ⟨a, g, o, cap, rfl, -, -, -⟩ := hv
  obtain ⟨a', g', o', cap', rfl, -, -, -⟩ := hu
  have hf : fitsF p x H path A = (onF p x path && !(H.any (missF A))) := rfl
  rw [hf]
  obtain ⟨r, hr⟩ : ∃ z_, (H.any (missF A)) = z_ := ⟨_, rfl⟩
  simp only [hr] at AN
  rw [hr]
  obtain ⟨b, hb1⟩ : ∃ z_, (onF p x path) = z_ := ⟨_, rfl⟩
  rw [hb1] at ON ⊢
  clear hr hf hb1
  replace ON := Lib.hid ON
  replace AN := Lib.hid AN
  replace hb := Lib.hid hb
  replace hX := Lib.hid hX
  go_enter Try.func22, Try.ntmps22
  go_wp2_with fail
  with_reducible refine (ON.out).mono ?_
  rintro e w2 ⟨rfl, hn⟩
  have hz := hb.out.tr hn
  have hX2 := blk_bl hX.out hn
  have c2 := cell_at hX2 2
  simp only [List.getElem?_toArray, List.getElem?_cons_succ, List.getElem?_cons_zero] at c2
  clear hn hX2
  cases b with
  | false =>
    replace hz := Lib.hid hz
    go_wp2_with fail
    go_ret
    exact ⟨rfl, hz.out⟩
  | true =>
    have AN2 := AN.out _ hz
    replace hz := Lib.hid hz
    replace AN2 := Lib.hid AN2
    go_wp2_with fail
    with_reducible refine (AN2.out).mono ?_
    rintro e w3 ⟨rfl, hn⟩
    have hz3 := hz.out.tr hn
    replace hz3 := Lib.hid hz3
    clear hn
    go_wp2_with fail
    go_ret
    exact ⟨rfl, hz3.out⟩
end Go.Proofs.Ytpdcadlgdpkkoaa.mat
