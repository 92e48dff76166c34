/-
  What fits is on its path; a match that asks for one head more fits no more, and a request of one head more is fitted by no fewer, for any numbers.
-/
import Derived.Test.YtpdcadlgdpkkoaaMaN
import Derived.Test.YtpdcadlgdpkkoaaMaK
import Derived.Test.YtpdcadlgdpkkoaaHdL0
namespace Go.Proofs.Ytpdcadlgdpkkoaa.matchMore
open Go.ChangeShapes Go.WideShapes Go.ChangeAt Go.RowKit
open Go.Proofs.Ytpdcadlgdpkkoaa.mat Go.Proofs.Ytpdcadlgdpkkoaa.heads
set_option linter.unusedVariables false
set_option linter.unusedSimpArgs false

theorem fits_on {p : ByteArray} {x : Bool} {H A : List Hd} {s : ByteArray} (h : fitsF p x H s A = true) : onF p x s = true := by
  unfold fitsF at h
  rw [Bool.and_eq_true] at h
  exact h.1
theorem fits_nil (p : ByteArray) (x : Bool) (A : List Hd) (s : ByteArray) : fitsF p x [] s A = onF p x s := by unfold fitsF; simp
theorem get_more {A : List Hd} {o y : Hd} {s : ByteArray} (h : getH A s = some y) : getH (A ++ [o]) s = some y := by
  unfold getH at h ⊢
  rw [List.find?_append, h]
  rfl
theorem miss_more {A : List Hd} {o y : Hd} (h : missF A y = false) : missF (A ++ [o]) y = false := by
  unfold missF at h ⊢
  rcases hg : getH A y.n with _ | z
  · rw [hg] at h; cases h
  · rw [hg] at h
    rw [get_more hg]
    exact h
theorem fits_more {p : ByteArray} {x : Bool} {H A : List Hd} {s : ByteArray} (o : Hd) (h : fitsF p x H s A = true) : fitsF p x H s (A ++ [o]) = true := by
  unfold fitsF at h ⊢
  rw [Bool.and_eq_true, Bool.not_eq_true', List.any_eq_false] at h ⊢
  refine ⟨h.1, fun y hy => ?_⟩
  have := h.2 y hy
  rw [Bool.not_eq_true] at this ⊢
  exact miss_more this
theorem fits_strict {p : ByteArray} {x : Bool} {H A : List Hd} {s : ByteArray} (o : Hd) (h : fitsF p x (H ++ [o]) s A = true) : fitsF p x H s A = true := by
  unfold fitsF at h ⊢
  rw [Bool.and_eq_true, Bool.not_eq_true', List.any_eq_false] at h ⊢
  exact ⟨h.1, fun y hy => h.2 y (List.mem_append_left _ hy)⟩
theorem get_tup (A : List Hd) (s : ByteArray) : ∃ v b, getV A s = .tuple #[S v, .bool b] := by
  unfold getV
  rcases getH A s with _ | z
  · exact ⟨_, _, rfl⟩
  · exact ⟨_, _, rfl⟩
set_option maxRecDepth 20000 in
set_option maxHeartbeats 8000000 in
theorem walk {w : World} (v0 : Value) (z0 : List Int) (hv0 : IntsAt w v0 z0) (hz0 : i64ok z0) (hm0 : z0.length ≤ maxLen) (n : Int) (l1 : -9223372036854775808 ≤ n) (u1 : n ≤ 9223372036854775807) (v1 : Value) (z1 : List Int) (hv1 : IntsAt w v1 z1) (hz1 : i64ok z1) (hm1 : z1.length ≤ maxLen) (k : Int) (l2 : -9223372036854775808 ≤ k) (u2 : k ≤ 9223372036854775807) :
    Calls Try.prog 6 #[v0, I n, v1, I k] w fun e w' => e = .returned (.bool true) ∧ Bl w w' := by
  obtain ⟨iu, hiu, zu0, zu1, zu2⟩ := info_parts infoH
  have M1 := match_mk z0 v0 w hv0 hz0 hm0
  have PO := fun w => pathof_any n w l1 u1
  have HM := fun w' (hb : Bl w w') => heads_mk z1 v1 w' (Rd.below hv1 hb) hz1 hm1
  have O3 := Lib.hid (fun w => one_any k w l2 u2)
  have LV := Lib.hid lives_any
  have s1 := (mpF_is z0).2
  have s2 := (pathO_is n).2.2
  have lH := mhA_len z0
  have lA := headsF_len z1 (min z1.length 12)
  obtain ⟨p, hp⟩ : ∃ z_, (mpF z0) = z_ := ⟨_, rfl⟩
  obtain ⟨x, hx⟩ : ∃ z_, (mxF z0) = z_ := ⟨_, rfl⟩
  obtain ⟨H, hH⟩ : ∃ z_, (mhA z0) = z_ := ⟨_, rfl⟩
  obtain ⟨s, hs⟩ : ∃ z_, (pathO n) = z_ := ⟨_, rfl⟩
  obtain ⟨A, hA⟩ : ∃ z_, (headsF z1 (min z1.length 12)) = z_ := ⟨_, rfl⟩
  obtain ⟨o, ho⟩ : ∃ z_, (oneF k) = z_ := ⟨_, rfl⟩
  simp only [hp, hx, hH] at M1 s1 lH
  simp only [hs] at PO s2
  simp only [hA] at HM lA
  rw [ho] at O3
  obtain ⟨on, ou⟩ := o
  obtain ⟨nn, hnn⟩ : ∃ z_, (H.length) = z_ := ⟨_, rfl⟩
  obtain ⟨ln, hln⟩ : ∃ z_, (A.length) = z_ := ⟨_, rfl⟩
  rw [hnn] at lH
  rw [hln] at lA
  have FI := Lib.hid (fun u H v A w hu hv hl hm => fits_any p x u H s v A w (by omega) (by omega) hu hv hl hm)
  have ON := Lib.hid (fun u w => on_any p x u s w (by omega) (by omega))
  clear hp hx hH hs hA ho hv0 hv1 hz0 hz1 hm0 hm1 l1 u1 l2 u2 s1 s2
  replace M1 := Lib.hid M1
  replace PO := Lib.hid PO
  replace HM := Lib.hid HM
  replace hnn := Lib.hid hnn
  replace hln := Lib.hid hln
  replace lH := Lib.hid lH
  replace lA := Lib.hid lA
  go_enter Try.func6, Try.ntmps6
  go_wp2_with fail
  replace hnn := hnn.out
  replace hln := hln.out
  with_reducible refine (M1.out).mono ?_
  rintro e w1 ⟨u, rfl, hO, q1⟩
  have hHm := heads_own hO
  obtain ⟨ra, g1, rc, rfl, -⟩ := OwnB.row hO (by decide)
  rw [hnn]
  rw [hnn] at hHm
  have b1 := heap_alloc_new w1 (oM p x (.slice ra nn rc))
  have i1 := (Bl.rfl' w1).al (oM p x (.slice ra nn rc))
  obtain ⟨y1, h1⟩ : ∃ X, w1.alloc (.cells #[.string p, .bool x, .slice ra nn rc] 29) = X := ⟨_, rfl⟩
  have hh : w1.alloc (oM p x (.slice ra nn rc)) = y1 := h1
  obtain ⟨r1, e1⟩ : ∃ X, w1.heap.size = X := ⟨_, rfl⟩
  rw [hh] at b1 i1
  rw [e1] at b1
  have t1 := q1.tr i1
  replace hHm := hHm.bl i1
  clear hh hO
  replace b1 := Lib.hid b1
  replace t1 := Lib.hid t1
  replace h1 := Lib.hid h1
  replace e1 := Lib.hid e1
  replace hHm := Lib.hid hHm
  clear q1 i1
  go_upto_region 2 with fail
  rw [h1.out, e1.out]
  clear h1 e1
  go_wp2_with fail
  with_reducible refine (PO.out _).mono ?_
  rintro e w2 ⟨rfl, q2⟩
  have t2 := t1.out.tr q2
  have HM2 := HM.out _ t2
  have b12 := blk_bl b1.out q2
  replace hHm := Lib.hid (hHm.out.bl q2)
  clear q2 b1 t1 HM PO M1
  replace t2 := Lib.hid t2
  replace HM2 := Lib.hid HM2
  replace b12 := Lib.hid b12
  go_wp2_with fail
  with_reducible refine (HM2.out).mono ?_
  rintro e w3 ⟨va, rfl, hO, q3⟩
  have hHa := heads_own hO
  obtain ⟨aa, ag, ac, rfl, -⟩ := OwnB.row hO (by decide)
  rw [hln]
  rw [hln] at hHa
  have t3 := t2.out.tr q3
  have b13 := blk_bl b12.out q3
  replace hHm := Lib.hid (hHm.out.bl q3)
  clear q3 hO t2 b12 HM2
  replace t3 := Lib.hid t3
  replace b13 := Lib.hid b13
  replace hHa := Lib.hid hHa
  go_wp2_with fail
  with_reducible refine (O3.out _).mono ?_
  rintro e w4 ⟨rfl, q4⟩
  have b2 := heap_alloc_new w4 (oH ⟨on, ou⟩)
  have i4 := (Bl.rfl' w4).al (oH ⟨on, ou⟩)
  obtain ⟨y4, h4⟩ : ∃ X, w4.alloc (.cells #[.string on, .string ou] 42) = X := ⟨_, rfl⟩
  have hh : w4.alloc (oH ⟨on, ou⟩) = y4 := h4
  obtain ⟨r2, e4⟩ : ∃ X, w4.heap.size = X := ⟨_, rfl⟩
  rw [hh] at b2 i4
  rw [e4] at b2
  have j4 := q4.tr i4
  have t4 := t3.out.tr j4
  have b14 := blk_bl b13.out j4
  replace hHm := Lib.hid (hHm.out.bl j4)
  replace hHa := Lib.hid (hHa.out.bl j4)
  clear hh q4 i4 j4 t3 b13
  replace h4 := Lib.hid h4
  replace e4 := Lib.hid e4
  replace b2 := Lib.hid b2
  replace t4 := Lib.hid t4
  replace b14 := Lib.hid b14
  go_upto_region 5 with fail
  rw [h4.out, e4.out]
  clear h4 e4
  have c0 := cell_at b14.out 0
  have c1 := cell_at b14.out 1
  have c2 := cell_at b14.out 2
  simp only [List.getElem?_toArray, List.getElem?_cons_succ, List.getElem?_cons_zero] at c0 c1 c2
  have lH := lH.out
  have lA := lA.out
  have F5 := FI.out _ H _ A y4 hHm.out hHa.out (by omega) (by omega)
  have hfo := fun h => fits_on (p := p) (x := x) (H := H) (A := A) (s := s) h
  have hfm := fun h => fits_more (p := p) (x := x) (H := H) (A := A) (s := s) ⟨on, ou⟩ h
  have hfs := fun h => fits_strict (p := p) (x := x) (H := H) (A := A) (s := s) ⟨on, ou⟩ h
  have hfn := fits_nil p x A s
  obtain ⟨ft, hft⟩ : ∃ z_, (fitsF p x H s A) = z_ := ⟨_, rfl⟩
  simp only [hft] at hfo hfm hfs F5
  clear hft
  replace F5 := Lib.hid F5
  replace hfo := Lib.hid hfo
  replace hfm := Lib.hid hfm
  replace hfs := Lib.hid hfs
  replace hfn := Lib.hid hfn
  go_wp2_with fail
  with_reducible refine (F5.out).mono ?_
  rintro e w5 ⟨rfl, q5⟩
  have b15 := blk_bl b14.out q5
  have b25 := blk_bl b2.out q5
  have t5 := t4.out.tr q5
  replace hHm := Lib.hid (hHm.out.bl q5)
  replace hHa := Lib.hid (hHa.out.bl q5)
  clear c0 c1 c2 q5 t4 b14 b2
  have c0 := cell_at b15 0
  have c1 := cell_at b15 1
  have c2 := cell_at b15 2
  simp only [List.getElem?_toArray, List.getElem?_cons_succ, List.getElem?_cons_zero] at c0 c1 c2
  have b3 := heap_alloc_new w5 (oM p x nilH)
  have i5 := (Bl.rfl' w5).al (oM p x nilH)
  obtain ⟨y5, h5⟩ : ∃ X, w5.alloc (.cells #[.string p, .bool x, .slice none 0 0] 29) = X := ⟨_, rfl⟩
  have hh : w5.alloc (oM p x nilH) = y5 := h5
  obtain ⟨r3, e5⟩ : ∃ X, w5.heap.size = X := ⟨_, rfl⟩
  rw [hh] at b3 i5
  rw [e5] at b3
  have t6 := t5.tr i5
  have b16 := blk_bl b15 i5
  have b26 := blk_bl b25 i5
  replace hHm := Lib.hid (hHm.out.bl i5)
  replace hHa := Lib.hid (hHa.out.bl i5)
  clear hh i5 t5 b15 b25
  replace h5 := Lib.hid h5
  replace e5 := Lib.hid e5
  replace b3 := Lib.hid b3
  replace t6 := Lib.hid t6
  replace b16 := Lib.hid b16
  replace b26 := Lib.hid b26
  go_upto_region 8 with fail
  rw [h5.out, e5.out]
  clear h5 e5 c0 c1 c2
  have KX := Lib.hid (fun w' (hb : Bl y5 w') => (⟨cell_at (blk_bl b16.out hb) 0, cell_at (blk_bl b16.out hb) 1, cell_at (blk_bl b16.out hb) 2, cell_at (blk_bl b26.out hb) 0, cell_at (blk_bl b26.out hb) 1, cell_at (blk_bl b3.out hb) 0, cell_at (blk_bl b3.out hb) 1, cell_at (blk_bl b3.out hb) 2⟩ :
    w'.cell? ⟨r1, 0, none⟩ = some (S p) ∧ w'.cell? ⟨r1, 1, none⟩ = some (.bool x) ∧ w'.cell? ⟨r1, 2, none⟩ = some (.slice ra nn rc) ∧ w'.cell? ⟨r2, 0, none⟩ = some (S on) ∧ w'.cell? ⟨r2, 1, none⟩ = some (S ou) ∧ w'.cell? ⟨r3, 0, none⟩ = some (S p) ∧ w'.cell? ⟨r3, 1, none⟩ = some (.bool x) ∧ w'.cell? ⟨r3, 2, none⟩ = some nilH))
  have HH := Lib.hid (fun w' (hb : Bl y5 w') => hHm.out.bl hb)
  have HA := Lib.hid (fun w' (hb : Bl y5 w') => hHa.out.bl hb)
  have hn0 : ∀ w', HeadsAt w' nilH [] := fun w' => heads_own (OwnB.nil _ _ 0)
  have FB := fun w' (hb : Bl y5 w') => FI.out _ [] _ A w' (hn0 w') (HA.out w' hb) (by omega) (by simp)
  rw [hfn.out] at FB
  have O1 := ON.out (.slice ra nn rc)
  obtain ⟨ob, hob⟩ : ∃ z_, (onF p x s) = z_ := ⟨_, rfl⟩
  simp only [hob] at FB O1 hfo
  clear hob b16 b26 b3 hHm hHa hn0 hfn
  replace FB := Lib.hid FB
  replace O1 := Lib.hid O1
  go_cut [51] from 35 to 51 (fun b wx => b = .bool false ∧ Bl y5 wx)
  case first =>
    have g0 : Bl y5 y5.drew := (Bl.rfl' y5).dr
    obtain ⟨y6, hy6⟩ : ∃ X, y5.drew = X := ⟨_, rfl⟩
    rw [hy6] at g0
    have hq := Lib.hid g0
    clear g0
    refine wp_region_held_drew (S := fun w' => w'.cell? ⟨r1, 0, none⟩ = some (S p) ∧ w'.cell? ⟨r1, 1, none⟩ = some (.bool x) ∧ w'.cell? ⟨r1, 2, none⟩ = some (.slice ra nn rc) ∧ w'.cell? ⟨r2, 0, none⟩ = some (S on) ∧ w'.cell? ⟨r2, 1, none⟩ = some (S ou) ∧ w'.cell? ⟨r3, 0, none⟩ = some (S p) ∧ w'.cell? ⟨r3, 1, none⟩ = some (.bool x) ∧ w'.cell? ⟨r3, 2, none⟩ = some nilH) (by kernel_rfl) ?_ (fun hHeld => ?_)
    · exact KX.out _ (by rw [hy6]; exact hq.out)
    rw [hy6] at hHeld ⊢
    clear hy6
    cases ft with
    | true =>
      obtain rfl := hfo.out rfl
      refine wpAnyH_take (i := 0) (v := ?v0_1) rfl (by kernel_rfl) (by kernel_rfl) (by kernel_rfl) (fun _ _ _ h => h) (Or.inl ⟨by rfl, ?y0_1⟩) hHeld ?r0_1
      case y0_1 => (intro w hSw; (try dsimp only at hSw); go_split_ands; go_simp; try with_reducible rfl)
      try simp only [List.getElem_toArray, List.getElem_cons_succ, List.getElem_cons_zero, Act.put, List.setIfInBounds_toArray, List.set_cons_zero, List.set_cons_succ]
      refine wpAnyH_take (i := 1) (v := ?v1_2) rfl (by kernel_rfl) (by kernel_rfl) (by kernel_rfl) (fun _ _ _ h => h) (Or.inl ⟨by rfl, ?y1_2⟩) hHeld ?r1_2
      case y1_2 => (intro w hSw; (try dsimp only at hSw); go_split_ands; go_simp; try with_reducible rfl)
      try simp only [List.getElem_toArray, List.getElem_cons_succ, List.getElem_cons_zero, Act.put, List.setIfInBounds_toArray, List.set_cons_zero, List.set_cons_succ]
      refine wpAnyH_take (i := 2) (v := ?v2_3) rfl (by kernel_rfl) (by kernel_rfl) (by kernel_rfl) (fun _ _ _ h => h) (Or.inl ⟨by rfl, ?y2_3⟩) hHeld ?r2_3
      case y2_3 => (intro w hSw; (try dsimp only at hSw); go_split_ands; go_simp; try with_reducible rfl)
      try simp only [List.getElem_toArray, List.getElem_cons_succ, List.getElem_cons_zero, Act.put, List.setIfInBounds_toArray, List.set_cons_zero, List.set_cons_succ]
      refine wpAnyH_take (i := 3) (v := ?v3_4) rfl (by kernel_rfl) (by kernel_rfl) (by kernel_rfl) (fun _ _ _ h => h) (Or.inl ⟨by rfl, ?y3_4⟩) hHeld ?r3_4
      case y3_4 => (intro w hSw; (try dsimp only at hSw); go_split_ands; go_simp; try with_reducible rfl)
      try simp only [List.getElem_toArray, List.getElem_cons_succ, List.getElem_cons_zero, Act.put, List.setIfInBounds_toArray, List.set_cons_zero, List.set_cons_succ]
      refine wpAnyH_ready (rs := [4]) (by kernel_rfl) (by simp) ?_
      refine AllReadyH.cons rfl (fun K hK => ?_) AllReadyH.nil
      have hHeld' := hHeld
      try dsimp only at hHeld'
      go_split_ands
      go_simp
      refine ((O1.out _)).mono ?_
      rintro e w' ⟨rfl, hn⟩
      replace hq := Lib.hid (hq.out.tr hn)
      clear hn
      refine hK.out _ _ ?_ (fun hHeld => ?_)
      · exact (KX.out _ hq.out)
      clear hK K
      try simp only [List.getElem_toArray, List.getElem_cons_succ, List.getElem_cons_zero, Act.put, List.setIfInBounds_toArray, List.set_cons_zero, List.set_cons_succ]
      refine wpAnyH_take (i := 5) (v := ?v5_5) rfl (by kernel_rfl) (by kernel_rfl) (by kernel_rfl) (fun _ _ _ h => h) (Or.inl ⟨by rfl, ?y5_5⟩) hHeld ?r5_5
      case y5_5 => (intro w hSw; (try dsimp only at hSw); go_split_ands; go_simp; try with_reducible rfl)
      try simp only [List.getElem_toArray, List.getElem_cons_succ, List.getElem_cons_zero, Act.put, List.setIfInBounds_toArray, List.set_cons_zero, List.set_cons_succ]
      refine wpAnyH_take (i := 6) (v := ?v6_6) rfl (by kernel_rfl) (by kernel_rfl) (by kernel_rfl) (fun _ _ _ h => h) (Or.inl ⟨by rfl, ?y6_6⟩) hHeld ?r6_6
      case y6_6 => (intro w hSw; (try dsimp only at hSw); go_split_ands; go_simp; try with_reducible rfl)
      try simp only [List.getElem_toArray, List.getElem_cons_succ, List.getElem_cons_zero, Act.put, List.setIfInBounds_toArray, List.set_cons_zero, List.set_cons_succ]
      refine wpAnyH_take (i := 7) (v := ?v7_7) rfl (by kernel_rfl) (by kernel_rfl) (by kernel_rfl) (fun _ _ _ h => h) (Or.inl ⟨by rfl, ?y7_7⟩) hHeld ?r7_7
      case y7_7 => (intro w hSw; (try dsimp only at hSw); go_split_ands; go_simp; try with_reducible rfl)
      try simp only [List.getElem_toArray, List.getElem_cons_succ, List.getElem_cons_zero, Act.put, List.setIfInBounds_toArray, List.set_cons_zero, List.set_cons_succ]
      refine wpAnyH_take (i := 8) (v := ?v8_8) rfl (by kernel_rfl) (by kernel_rfl) (by kernel_rfl) (fun _ _ _ h => h) (Or.inl ⟨by rfl, ?y8_8⟩) hHeld ?r8_8
      case y8_8 => (intro w hSw; (try dsimp only at hSw); go_split_ands; go_simp; try with_reducible rfl)
      try simp only [List.getElem_toArray, List.getElem_cons_succ, List.getElem_cons_zero, Act.put, List.setIfInBounds_toArray, List.set_cons_zero, List.set_cons_succ]
      refine wpAnyH_take (i := 9) (v := ?v9_9) rfl (by kernel_rfl) (by kernel_rfl) (by kernel_rfl) (fun _ _ _ h => h) (Or.inl ⟨by rfl, ?y9_9⟩) hHeld ?r9_9
      case y9_9 => (intro w hSw; (try dsimp only at hSw); go_split_ands; go_simp; try with_reducible rfl)
      try simp only [List.getElem_toArray, List.getElem_cons_succ, List.getElem_cons_zero, Act.put, List.setIfInBounds_toArray, List.set_cons_zero, List.set_cons_succ]
      refine wpAnyH_take (i := 10) (v := ?v10_10) rfl (by kernel_rfl) (by kernel_rfl) (by kernel_rfl) (fun _ _ _ h => h) (Or.inl ⟨by rfl, ?y10_10⟩) hHeld ?r10_10
      case y10_10 => (intro w hSw; (try dsimp only at hSw); go_split_ands; go_simp; try with_reducible rfl)
      try simp only [List.getElem_toArray, List.getElem_cons_succ, List.getElem_cons_zero, Act.put, List.setIfInBounds_toArray, List.set_cons_zero, List.set_cons_succ]
      refine wpAnyH_take (i := 12) (v := ?v12_11) rfl (by kernel_rfl) (by kernel_rfl) (by kernel_rfl) (fun _ _ _ h => h) (Or.inl ⟨by rfl, ?y12_11⟩) hHeld ?r12_11
      case y12_11 => (intro w hSw; (try dsimp only at hSw); go_split_ands; go_simp; try with_reducible rfl)
      try simp only [List.getElem_toArray, List.getElem_cons_succ, List.getElem_cons_zero, Act.put, List.setIfInBounds_toArray, List.set_cons_zero, List.set_cons_succ]
      refine wpAnyH_take (i := 13) (v := ?v13_12) rfl (by kernel_rfl) (by kernel_rfl) (by kernel_rfl) (fun _ _ _ h => h) (Or.inl ⟨by rfl, ?y13_12⟩) hHeld ?r13_12
      case y13_12 => (intro w hSw; (try dsimp only at hSw); go_split_ands; go_simp; try with_reducible rfl)
      try simp only [List.getElem_toArray, List.getElem_cons_succ, List.getElem_cons_zero, Act.put, List.setIfInBounds_toArray, List.set_cons_zero, List.set_cons_succ]
      refine wpAnyH_ready (rs := [11]) (by kernel_rfl) (by simp) ?_
      refine AllReadyH.cons rfl (fun K hK => ?_) AllReadyH.nil
      have hHeld' := hHeld
      try dsimp only at hHeld'
      go_split_ands
      go_simp
      refine ((FB.out _ hq.out)).mono ?_
      rintro e w' ⟨rfl, hn⟩
      replace hq := Lib.hid (hq.out.tr hn)
      clear hn
      refine hK.out _ _ ?_ (fun hHeld => ?_)
      · exact (KX.out _ hq.out)
      clear hK K
      try simp only [List.getElem_toArray, List.getElem_cons_succ, List.getElem_cons_zero, Act.put, List.setIfInBounds_toArray, List.set_cons_zero, List.set_cons_succ]
      refine wpAnyH_ready (rs := [14]) (by kernel_rfl) (by simp) ?_
      refine AllReadyH.cons rfl (fun K hK => ?_) AllReadyH.nil
      have hHeld' := hHeld
      try dsimp only at hHeld'
      go_split_ands
      go_simp
      refine ((O1.out _)).mono ?_
      rintro e w' ⟨rfl, hn⟩
      replace hq := Lib.hid (hq.out.tr hn)
      clear hn
      refine hK.out _ _ ?_ (fun hHeld => ?_)
      · exact (KX.out _ hq.out)
      clear hK K
      try simp only [List.getElem_toArray, List.getElem_cons_succ, List.getElem_cons_zero, Act.put, List.setIfInBounds_toArray, List.set_cons_zero, List.set_cons_succ]
      refine wpAnyH_take (i := 15) (v := ?v15_13) rfl (by kernel_rfl) (by kernel_rfl) (by kernel_rfl) (fun _ _ _ h => h) (Or.inl ⟨by rfl, ?y15_13⟩) hHeld ?r15_13
      case y15_13 => (intro w hSw; (try dsimp only at hSw); go_split_ands; go_simp; try with_reducible rfl)
      try simp only [List.getElem_toArray, List.getElem_cons_succ, List.getElem_cons_zero, Act.put, List.setIfInBounds_toArray, List.set_cons_zero, List.set_cons_succ]
      refine wpAnyH_take (i := 16) (v := ?v16_14) rfl (by kernel_rfl) (by kernel_rfl) (by kernel_rfl) (fun _ _ _ h => h) (Or.inl ⟨by rfl, ?y16_14⟩) hHeld ?r16_14
      case y16_14 => (intro w hSw; (try dsimp only at hSw); go_split_ands; go_simp; try with_reducible rfl)
      try simp only [List.getElem_toArray, List.getElem_cons_succ, List.getElem_cons_zero, Act.put, List.setIfInBounds_toArray, List.set_cons_zero, List.set_cons_succ]
      refine wpAnyH_done (by kernel_rfl) ?_ _
      go_wp2_with fail
      go_meet
      case rel => exact ⟨by simp, hq.out⟩
    | false =>
      refine wpAnyH_take (i := 0) (v := ?v0_15) rfl (by kernel_rfl) (by kernel_rfl) (by kernel_rfl) (fun _ _ _ h => h) (Or.inl ⟨by rfl, ?y0_15⟩) hHeld ?r0_15
      case y0_15 => (intro w hSw; (try dsimp only at hSw); go_split_ands; go_simp; try with_reducible rfl)
      try simp only [List.getElem_toArray, List.getElem_cons_succ, List.getElem_cons_zero, Act.put, List.setIfInBounds_toArray, List.set_cons_zero, List.set_cons_succ]
      refine wpAnyH_take (i := 1) (v := ?v1_16) rfl (by kernel_rfl) (by kernel_rfl) (by kernel_rfl) (fun _ _ _ h => h) (Or.inl ⟨by rfl, ?y1_16⟩) hHeld ?r1_16
      case y1_16 => (intro w hSw; (try dsimp only at hSw); go_split_ands; go_simp; try with_reducible rfl)
      try simp only [List.getElem_toArray, List.getElem_cons_succ, List.getElem_cons_zero, Act.put, List.setIfInBounds_toArray, List.set_cons_zero, List.set_cons_succ]
      refine wpAnyH_take (i := 2) (v := undef) rfl (by kernel_rfl) (by kernel_rfl) (by kernel_rfl) (fun _ _ _ h => h) (Or.inr ⟨by rfl, rfl⟩) hHeld ?_
      try simp only [List.getElem_toArray, List.getElem_cons_succ, List.getElem_cons_zero, Act.put, List.setIfInBounds_toArray, List.set_cons_zero, List.set_cons_succ]
      refine wpAnyH_take (i := 3) (v := undef) rfl (by kernel_rfl) (by kernel_rfl) (by kernel_rfl) (fun _ _ _ h => h) (Or.inr ⟨by rfl, rfl⟩) hHeld ?_
      try simp only [List.getElem_toArray, List.getElem_cons_succ, List.getElem_cons_zero, Act.put, List.setIfInBounds_toArray, List.set_cons_zero, List.set_cons_succ]
      refine wpAnyH_take (i := 4) (v := undef) rfl (by kernel_rfl) (by kernel_rfl) (by kernel_rfl) (fun _ _ _ h => h) (Or.inr ⟨by rfl, rfl⟩) hHeld ?_
      try simp only [List.getElem_toArray, List.getElem_cons_succ, List.getElem_cons_zero, Act.put, List.setIfInBounds_toArray, List.set_cons_zero, List.set_cons_succ]
      refine wpAnyH_take (i := 5) (v := undef) rfl (by kernel_rfl) (by kernel_rfl) (by kernel_rfl) (fun _ _ _ h => h) (Or.inr ⟨by rfl, rfl⟩) hHeld ?_
      try simp only [List.getElem_toArray, List.getElem_cons_succ, List.getElem_cons_zero, Act.put, List.setIfInBounds_toArray, List.set_cons_zero, List.set_cons_succ]
      refine wpAnyH_take (i := 6) (v := ?v6_17) rfl (by kernel_rfl) (by kernel_rfl) (by kernel_rfl) (fun _ _ _ h => h) (Or.inl ⟨by rfl, ?y6_17⟩) hHeld ?r6_17
      case y6_17 => (intro w hSw; (try dsimp only at hSw); go_split_ands; go_simp; try with_reducible rfl)
      try simp only [List.getElem_toArray, List.getElem_cons_succ, List.getElem_cons_zero, Act.put, List.setIfInBounds_toArray, List.set_cons_zero, List.set_cons_succ]
      refine wpAnyH_take (i := 7) (v := ?v7_18) rfl (by kernel_rfl) (by kernel_rfl) (by kernel_rfl) (fun _ _ _ h => h) (Or.inl ⟨by rfl, ?y7_18⟩) hHeld ?r7_18
      case y7_18 => (intro w hSw; (try dsimp only at hSw); go_split_ands; go_simp; try with_reducible rfl)
      try simp only [List.getElem_toArray, List.getElem_cons_succ, List.getElem_cons_zero, Act.put, List.setIfInBounds_toArray, List.set_cons_zero, List.set_cons_succ]
      refine wpAnyH_take (i := 8) (v := ?v8_19) rfl (by kernel_rfl) (by kernel_rfl) (by kernel_rfl) (fun _ _ _ h => h) (Or.inl ⟨by rfl, ?y8_19⟩) hHeld ?r8_19
      case y8_19 => (intro w hSw; (try dsimp only at hSw); go_split_ands; go_simp; try with_reducible rfl)
      try simp only [List.getElem_toArray, List.getElem_cons_succ, List.getElem_cons_zero, Act.put, List.setIfInBounds_toArray, List.set_cons_zero, List.set_cons_succ]
      refine wpAnyH_take (i := 9) (v := ?v9_20) rfl (by kernel_rfl) (by kernel_rfl) (by kernel_rfl) (fun _ _ _ h => h) (Or.inl ⟨by rfl, ?y9_20⟩) hHeld ?r9_20
      case y9_20 => (intro w hSw; (try dsimp only at hSw); go_split_ands; go_simp; try with_reducible rfl)
      try simp only [List.getElem_toArray, List.getElem_cons_succ, List.getElem_cons_zero, Act.put, List.setIfInBounds_toArray, List.set_cons_zero, List.set_cons_succ]
      refine wpAnyH_take (i := 10) (v := ?v10_21) rfl (by kernel_rfl) (by kernel_rfl) (by kernel_rfl) (fun _ _ _ h => h) (Or.inl ⟨by rfl, ?y10_21⟩) hHeld ?r10_21
      case y10_21 => (intro w hSw; (try dsimp only at hSw); go_split_ands; go_simp; try with_reducible rfl)
      try simp only [List.getElem_toArray, List.getElem_cons_succ, List.getElem_cons_zero, Act.put, List.setIfInBounds_toArray, List.set_cons_zero, List.set_cons_succ]
      refine wpAnyH_take (i := 12) (v := ?v12_22) rfl (by kernel_rfl) (by kernel_rfl) (by kernel_rfl) (fun _ _ _ h => h) (Or.inl ⟨by rfl, ?y12_22⟩) hHeld ?r12_22
      case y12_22 => (intro w hSw; (try dsimp only at hSw); go_split_ands; go_simp; try with_reducible rfl)
      try simp only [List.getElem_toArray, List.getElem_cons_succ, List.getElem_cons_zero, Act.put, List.setIfInBounds_toArray, List.set_cons_zero, List.set_cons_succ]
      refine wpAnyH_take (i := 13) (v := ?v13_23) rfl (by kernel_rfl) (by kernel_rfl) (by kernel_rfl) (fun _ _ _ h => h) (Or.inl ⟨by rfl, ?y13_23⟩) hHeld ?r13_23
      case y13_23 => (intro w hSw; (try dsimp only at hSw); go_split_ands; go_simp; try with_reducible rfl)
      try simp only [List.getElem_toArray, List.getElem_cons_succ, List.getElem_cons_zero, Act.put, List.setIfInBounds_toArray, List.set_cons_zero, List.set_cons_succ]
      refine wpAnyH_ready (rs := [11]) (by kernel_rfl) (by simp) ?_
      refine AllReadyH.cons rfl (fun K hK => ?_) AllReadyH.nil
      have hHeld' := hHeld
      try dsimp only at hHeld'
      go_split_ands
      go_simp
      refine ((FB.out _ hq.out)).mono ?_
      rintro e w' ⟨rfl, hn⟩
      replace hq := Lib.hid (hq.out.tr hn)
      clear hn
      refine hK.out _ _ ?_ (fun hHeld => ?_)
      · exact (KX.out _ hq.out)
      clear hK K
      try simp only [List.getElem_toArray, List.getElem_cons_succ, List.getElem_cons_zero, Act.put, List.setIfInBounds_toArray, List.set_cons_zero, List.set_cons_succ]
      refine wpAnyH_ready (rs := [14]) (by kernel_rfl) (by simp) ?_
      refine AllReadyH.cons rfl (fun K hK => ?_) AllReadyH.nil
      have hHeld' := hHeld
      try dsimp only at hHeld'
      go_split_ands
      go_simp
      refine ((O1.out _)).mono ?_
      rintro e w' ⟨rfl, hn⟩
      replace hq := Lib.hid (hq.out.tr hn)
      clear hn
      refine hK.out _ _ ?_ (fun hHeld => ?_)
      · exact (KX.out _ hq.out)
      clear hK K
      try simp only [List.getElem_toArray, List.getElem_cons_succ, List.getElem_cons_zero, Act.put, List.setIfInBounds_toArray, List.set_cons_zero, List.set_cons_succ]
      refine wpAnyH_take (i := 15) (v := ?v15_24) rfl (by kernel_rfl) (by kernel_rfl) (by kernel_rfl) (fun _ _ _ h => h) (Or.inl ⟨by rfl, ?y15_24⟩) hHeld ?r15_24
      case y15_24 => (intro w hSw; (try dsimp only at hSw); go_split_ands; go_simp; try with_reducible rfl)
      try simp only [List.getElem_toArray, List.getElem_cons_succ, List.getElem_cons_zero, Act.put, List.setIfInBounds_toArray, List.set_cons_zero, List.set_cons_succ]
      refine wpAnyH_take (i := 16) (v := ?v16_25) rfl (by kernel_rfl) (by kernel_rfl) (by kernel_rfl) (fun _ _ _ h => h) (Or.inl ⟨by rfl, ?y16_25⟩) hHeld ?r16_25
      case y16_25 => (intro w hSw; (try dsimp only at hSw); go_split_ands; go_simp; try with_reducible rfl)
      try simp only [List.getElem_toArray, List.getElem_cons_succ, List.getElem_cons_zero, Act.put, List.setIfInBounds_toArray, List.set_cons_zero, List.set_cons_succ]
      refine wpAnyH_done (by kernel_rfl) ?_ _
      go_wp2_with fail
      go_meet
      case rel => exact ⟨by simp, hq.out⟩
  case rest =>
    obtain ⟨rfl, hbc⟩ := hcut
    obtain ⟨c0, c1, c2, d0, d1, e0, e1, e2⟩ := KX.out _ hbc
    obtain ⟨gs, gb, hgv⟩ := get_tup A on
    have RG := rget_any _ A on wc (HA.out _ hbc) (by omega)
    rw [hgv] at RG
    clear hgv O1 FB hfo
    replace RG := Lib.hid RG
    replace hbc := Lib.hid hbc
    go_wp2_with fail
    with_reducible refine (RG.out).mono ?_
    rintro e w' ⟨rfl, rfl⟩
    clear RG
    go_upto_region 11 with fail
    clear c0 c1 c2 d0 d1 e0 e1 e2
    go_cut [17] from 59 to 64 (fun v wx => HeadsAt wx v (A ++ [⟨on, ou⟩]) ∧ Bl y5 wx)
    case first =>
      have g0 := hbc.out.dr
      obtain ⟨x0, hx0⟩ : ∃ X, wc.drew = X := ⟨_, rfl⟩
      rw [hx0] at g0
      have hq := Lib.hid g0
      have FA : ∀ w', Bl y5 w' → Feed w' (.slice aa ln ac) ln 2 (flatB hB A) := fun w' hb => by
        have := heads_feed (HA.out w' hb)
        rw [hln] at this
        exact this
      obtain ⟨base, hbase⟩ : ∃ X, x0.heap.size = X := ⟨_, rfl⟩
      have hbs : y5.heap.size ≤ base := by rw [← hbase]; exact g0.size
      have hzz : base ≤ x0.heap.size := by omega
      clear g0 hbase
      replace FA := Lib.hid FA
      replace hzz := Lib.hid hzz
      refine wp_region_held_drew (S := fun w' => w'.cell? ⟨r1, 0, none⟩ = some (S p) ∧ w'.cell? ⟨r1, 1, none⟩ = some (.bool x) ∧ w'.cell? ⟨r1, 2, none⟩ = some (.slice ra nn rc) ∧ w'.cell? ⟨r2, 0, none⟩ = some (S on) ∧ w'.cell? ⟨r2, 1, none⟩ = some (S ou) ∧ w'.cell? ⟨r3, 0, none⟩ = some (S p) ∧ w'.cell? ⟨r3, 1, none⟩ = some (.bool x) ∧ w'.cell? ⟨r3, 2, none⟩ = some nilH) (by kernel_rfl) ?_ (fun hHeld => ?_)
      · exact KX.out _ (by rw [hx0]; exact hq.out)
      rw [hx0] at hHeld ⊢
      clear hx0
      refine wpAnyH_take (i := 1) (v := ?v1_26) rfl (by kernel_rfl) (by kernel_rfl) (by kernel_rfl) (fun _ _ _ h => h) (Or.inl ⟨by rfl, ?y1_26⟩) hHeld ?r1_26
      case y1_26 => (intro w hSw; (try dsimp only at hSw); go_split_ands; go_simp; try with_reducible rfl)
      try simp only [List.getElem_toArray, List.getElem_cons_succ, List.getElem_cons_zero, Act.put, List.setIfInBounds_toArray, List.set_cons_zero, List.set_cons_succ]
      refine wpAnyH_take (i := 3) (v := ?v3_27) rfl (by kernel_rfl) (by kernel_rfl) (by kernel_rfl) (fun _ _ _ h => h) (Or.inl ⟨by rfl, ?y3_27⟩) hHeld ?r3_27
      case y3_27 => (intro w hSw; (try dsimp only at hSw); go_split_ands; go_simp; try with_reducible rfl)
      try simp only [List.getElem_toArray, List.getElem_cons_succ, List.getElem_cons_zero, Act.put, List.setIfInBounds_toArray, List.set_cons_zero, List.set_cons_succ]
      refine wpAnyH_ready (rs := [0, 4]) (by kernel_rfl) (by simp) ?_
      refine AllReadyH.cons rfl (fun K hK => ?_) (AllReadyH.cons rfl (fun K hK => ?_) (AllReadyH.nil))
      · have hHeld' := hHeld
        try dsimp only at hHeld'
        go_split_ands
        go_simp
        refine hK.out _ _ ?_ (fun hHeld => ?_)
        · exact (KX.out _ (hq.out.al (.cells #[] 42)))
        clear hK K
        try simp only [List.getElem_toArray, List.getElem_cons_succ, List.getElem_cons_zero, Act.put, List.setIfInBounds_toArray, List.set_cons_zero, List.set_cons_succ]
        have h0 := World.ownsRow_lit (base := base) (e := 42) (size := 2) x0 #[] 0 hzz.out (by unfold maxLen; omega) rfl
        have hn := (Bl.rfl' x0).al (.cells #[] 42)
        obtain ⟨x1, hy⟩ : ∃ X, x0.alloc (.cells #[] 42) = X := ⟨_, rfl⟩
        obtain ⟨gg0, hg0⟩ : ∃ X, x0.heap.size = X := ⟨_, rfl⟩
        rw [hy] at hHeld h0 hn ⊢
        rw [hg0] at h0 ⊢
        clear hy
        replace h0 := Lib.hid h0
        replace hq := Lib.hid (hq.out.tr hn)
        try replace hqx := Lib.hid (hqx.out.tr hn)
        replace hzz := Lib.hid (Nat.le_trans hzz.out hn.size)
        clear hn
        refine wpAnyH_ready (rs := [2, 4]) (by kernel_rfl) (by simp) ?_
        refine AllReadyH.cons rfl (fun K hK => ?_) (AllReadyH.cons rfl (fun K hK => ?_) (AllReadyH.nil))
        · refine step_append_feed rfl (.tmp 59) (.tmp 60) 22 rfl base 42 iu (.agg #[S ByteArray.empty, S ByteArray.empty]) 2 32 Try.underlying22 hiu zu0 zu1 zu2 rfl (by decide) _ 0 [] (by first | rfl | simp [Act.eval, Act.put]) h0.out _ ln (flatB hB A) (FA.out _ hq.out) (flat_one A) (by first | rfl | simp [Act.eval, Act.put]) (by omega) (by omega) hzz.out ?_
          intro v5 x2 hown5 hgrow5
          replace hq := Lib.hid (hq.out.grown hgrow5 (fun k hk => by have := (h0.out.lt k hk).1; omega))
          try replace hqx := Lib.hid (hqx.out.grown hgrow5 (fun k hk => by rw [hbase.out]; exact (h0.out.lt k hk).1))
          replace hzz := Lib.hid (Nat.le_trans hzz.out hgrow5.size)
          obtain ⟨oa, og, ocap, ocur, rfl, -⟩ := own_blk hown5 (by decide)
          rw [Nat.zero_add] at hown5 ⊢
          rw [List.nil_append] at hown5
          have hA5 := Lib.hid hown5
          clear hown5 hgrow5 h0
          refine hK.out _ _ ?_ (fun hHeld => ?_)
          · exact (KX.out _ hq.out)
          clear hK K
          try simp only [List.getElem_toArray, List.getElem_cons_succ, List.getElem_cons_zero, Act.put, List.setIfInBounds_toArray, List.set_cons_zero, List.set_cons_succ]
          refine wpAnyH_ready (rs := [4]) (by kernel_rfl) (by simp) ?_
          refine AllReadyH.cons rfl (fun K hK => ?_) AllReadyH.nil
          have hHeld' := hHeld
          try dsimp only at hHeld'
          go_split_ands
          go_simp
          refine hK.out _ _ ?_ (fun hHeld => ?_)
          · exact (KX.out _ (hq.out.al (.cells #[S on, S ou] 42)))
          clear hK K
          try simp only [List.getElem_toArray, List.getElem_cons_succ, List.getElem_cons_zero, Act.put, List.setIfInBounds_toArray, List.set_cons_zero, List.set_cons_succ]
          have hb := heap_alloc_new x2 (oH ⟨on, ou⟩)
          have hn := (Bl.rfl' x2).al (.cells #[S on, S ou] 42)
          obtain ⟨x3, hy⟩ : ∃ X, x2.alloc (.cells #[S on, S ou] 42) = X := ⟨_, rfl⟩
          have hy' : x2.alloc (oH ⟨on, ou⟩) = x3 := hy
          obtain ⟨q1, hg1⟩ : ∃ X, x2.heap.size = X := ⟨_, rfl⟩
          rw [hy] at hHeld hn ⊢
          rw [hy', hg1] at hb
          rw [hg1]
          clear hy hy'
          replace hb := Lib.hid hb
          replace hA5 := Lib.hid (own_below hA5.out hn)
          replace hq := Lib.hid (hq.out.tr hn)
          try replace hqx := Lib.hid (hqx.out.tr hn)
          replace hzz := Lib.hid (Nat.le_trans hzz.out hn.size)
          clear hn
          refine wpAnyH_ready (rs := [5]) (by kernel_rfl) (by simp) ?_
          refine AllReadyH.cons rfl (fun K hK => ?_) AllReadyH.nil
          refine step_append_feed rfl (.tmp 61) (.tmp 63) 22 rfl base 42 iu (.agg #[S ByteArray.empty, S ByteArray.empty]) 2 32 Try.underlying22 hiu zu0 zu1 zu2 rfl (by decide) _ ln (flatB hB A) (by first | rfl | simp [Act.eval, Act.put]) hA5.out _ 1 [S on, S ou] (Or.inr ⟨⟨q1, 0, none⟩, 1, rfl, rfl, fun j x hj => by rw [add_plain, Nat.zero_add, cell_at hb.out]; simpa using hj⟩) (by intro u hu; simp at hu; rcases hu with rfl | rfl <;> rfl) (by first | rfl | simp [Act.eval, Act.put]) (by omega) (by omega) hzz.out ?_
          intro v7 x4 hown7 hgrow7
          replace hq := Lib.hid (hq.out.grown hgrow7 (fun k hk => by have := (hA5.out.lt k hk).1; omega))
          try replace hqx := Lib.hid (hqx.out.grown hgrow7 (fun k hk => by rw [hbase.out]; exact (hA5.out.lt k hk).1))
          obtain ⟨oa7, og7, ocap7, ocur7, rfl, -⟩ := own_blk hown7 (by decide)
          have hO7 : OwnB hB 2 42 x4 base (.slice oa7 (ln + 1) ocap7) (A ++ [⟨on, ou⟩]) := by unfold OwnB; rw [flatB_snoc, List.length_append, hln]; exact hown7
          clear hown7 hgrow7
          refine hK.out _ _ ?_ (fun hHeld => ?_)
          · exact (KX.out _ hq.out)
          clear hK K
          try simp only [List.getElem_toArray, List.getElem_cons_succ, List.getElem_cons_zero, Act.put, List.setIfInBounds_toArray, List.set_cons_zero, List.set_cons_succ]
          refine wpAnyH_take (i := 6) (v := ?v6_28) rfl (by kernel_rfl) (by kernel_rfl) (by kernel_rfl) (fun _ _ _ h => h) (Or.inl ⟨by rfl, ?y6_28⟩) hHeld ?r6_28
          case y6_28 => (intro w hSw; (try dsimp only at hSw); go_split_ands; go_simp; try with_reducible rfl)
          try simp only [List.getElem_toArray, List.getElem_cons_succ, List.getElem_cons_zero, Act.put, List.setIfInBounds_toArray, List.set_cons_zero, List.set_cons_succ]
          refine wpAnyH_done (by kernel_rfl) ?_ _
          go_wp2_with fail
          go_meet
          case rel => exact ⟨heads_own hO7, hq.out⟩
        · have hHeld' := hHeld
          try dsimp only at hHeld'
          go_split_ands
          go_simp
          refine hK.out _ _ ?_ (fun hHeld => ?_)
          · exact (KX.out _ (hq.out.al (.cells #[S on, S ou] 42)))
          clear hK K
          try simp only [List.getElem_toArray, List.getElem_cons_succ, List.getElem_cons_zero, Act.put, List.setIfInBounds_toArray, List.set_cons_zero, List.set_cons_succ]
          have hb := heap_alloc_new x1 (oH ⟨on, ou⟩)
          have hn := (Bl.rfl' x1).al (.cells #[S on, S ou] 42)
          obtain ⟨x2, hy⟩ : ∃ X, x1.alloc (.cells #[S on, S ou] 42) = X := ⟨_, rfl⟩
          have hy' : x1.alloc (oH ⟨on, ou⟩) = x2 := hy
          obtain ⟨q1, hg1⟩ : ∃ X, x1.heap.size = X := ⟨_, rfl⟩
          rw [hy] at hHeld hn ⊢
          rw [hy', hg1] at hb
          rw [hg1]
          clear hy hy'
          replace hb := Lib.hid hb
          have hne : q1 ≠ gg0 := by have := (h0.out.lt gg0 rfl).2; omega
          replace h0 := Lib.hid (own_below h0.out hn)
          replace hq := Lib.hid (hq.out.tr hn)
          try replace hqx := Lib.hid (hqx.out.tr hn)
          replace hzz := Lib.hid (Nat.le_trans hzz.out hn.size)
          clear hn
          refine wpAnyH_ready (rs := [2]) (by kernel_rfl) (by simp) ?_
          refine AllReadyH.cons rfl (fun K hK => ?_) AllReadyH.nil
          refine step_append_feed rfl (.tmp 59) (.tmp 60) 22 rfl base 42 iu (.agg #[S ByteArray.empty, S ByteArray.empty]) 2 32 Try.underlying22 hiu zu0 zu1 zu2 rfl (by decide) _ 0 [] (by first | rfl | simp [Act.eval, Act.put]) h0.out _ ln (flatB hB A) (FA.out _ hq.out) (flat_one A) (by first | rfl | simp [Act.eval, Act.put]) (by omega) (by omega) hzz.out ?_
          intro v5 x3 hown5 hgrow5
          replace hb := Lib.hid ((hgrow5.block q1 (lt_of_block hb.out) (fun e => hne (Option.some.inj e))).trans hb.out)
          replace hq := Lib.hid (hq.out.grown hgrow5 (fun k hk => by have := (h0.out.lt k hk).1; omega))
          try replace hqx := Lib.hid (hqx.out.grown hgrow5 (fun k hk => by rw [hbase.out]; exact (h0.out.lt k hk).1))
          replace hzz := Lib.hid (Nat.le_trans hzz.out hgrow5.size)
          obtain ⟨oa, og, ocap, ocur, rfl, -⟩ := own_blk hown5 (by decide)
          rw [Nat.zero_add] at hown5 ⊢
          rw [List.nil_append] at hown5
          have hA5 := Lib.hid hown5
          clear hown5 hgrow5 h0
          refine hK.out _ _ ?_ (fun hHeld => ?_)
          · exact (KX.out _ hq.out)
          clear hK K
          try simp only [List.getElem_toArray, List.getElem_cons_succ, List.getElem_cons_zero, Act.put, List.setIfInBounds_toArray, List.set_cons_zero, List.set_cons_succ]
          refine wpAnyH_ready (rs := [5]) (by kernel_rfl) (by simp) ?_
          refine AllReadyH.cons rfl (fun K hK => ?_) AllReadyH.nil
          refine step_append_feed rfl (.tmp 61) (.tmp 63) 22 rfl base 42 iu (.agg #[S ByteArray.empty, S ByteArray.empty]) 2 32 Try.underlying22 hiu zu0 zu1 zu2 rfl (by decide) _ ln (flatB hB A) (by first | rfl | simp [Act.eval, Act.put]) hA5.out _ 1 [S on, S ou] (Or.inr ⟨⟨q1, 0, none⟩, 1, rfl, rfl, fun j x hj => by rw [add_plain, Nat.zero_add, cell_at hb.out]; simpa using hj⟩) (by intro u hu; simp at hu; rcases hu with rfl | rfl <;> rfl) (by first | rfl | simp [Act.eval, Act.put]) (by omega) (by omega) hzz.out ?_
          intro v7 x4 hown7 hgrow7
          replace hq := Lib.hid (hq.out.grown hgrow7 (fun k hk => by have := (hA5.out.lt k hk).1; omega))
          try replace hqx := Lib.hid (hqx.out.grown hgrow7 (fun k hk => by rw [hbase.out]; exact (hA5.out.lt k hk).1))
          obtain ⟨oa7, og7, ocap7, ocur7, rfl, -⟩ := own_blk hown7 (by decide)
          have hO7 : OwnB hB 2 42 x4 base (.slice oa7 (ln + 1) ocap7) (A ++ [⟨on, ou⟩]) := by unfold OwnB; rw [flatB_snoc, List.length_append, hln]; exact hown7
          clear hown7 hgrow7
          refine hK.out _ _ ?_ (fun hHeld => ?_)
          · exact (KX.out _ hq.out)
          clear hK K
          try simp only [List.getElem_toArray, List.getElem_cons_succ, List.getElem_cons_zero, Act.put, List.setIfInBounds_toArray, List.set_cons_zero, List.set_cons_succ]
          refine wpAnyH_take (i := 6) (v := ?v6_29) rfl (by kernel_rfl) (by kernel_rfl) (by kernel_rfl) (fun _ _ _ h => h) (Or.inl ⟨by rfl, ?y6_29⟩) hHeld ?r6_29
          case y6_29 => (intro w hSw; (try dsimp only at hSw); go_split_ands; go_simp; try with_reducible rfl)
          try simp only [List.getElem_toArray, List.getElem_cons_succ, List.getElem_cons_zero, Act.put, List.setIfInBounds_toArray, List.set_cons_zero, List.set_cons_succ]
          refine wpAnyH_done (by kernel_rfl) ?_ _
          go_wp2_with fail
          go_meet
          case rel => exact ⟨heads_own hO7, hq.out⟩
      · have hHeld' := hHeld
        try dsimp only at hHeld'
        go_split_ands
        go_simp
        refine hK.out _ _ ?_ (fun hHeld => ?_)
        · exact (KX.out _ (hq.out.al (.cells #[S on, S ou] 42)))
        clear hK K
        try simp only [List.getElem_toArray, List.getElem_cons_succ, List.getElem_cons_zero, Act.put, List.setIfInBounds_toArray, List.set_cons_zero, List.set_cons_succ]
        have hb := heap_alloc_new x0 (oH ⟨on, ou⟩)
        have hn := (Bl.rfl' x0).al (.cells #[S on, S ou] 42)
        obtain ⟨x1, hy⟩ : ∃ X, x0.alloc (.cells #[S on, S ou] 42) = X := ⟨_, rfl⟩
        have hy' : x0.alloc (oH ⟨on, ou⟩) = x1 := hy
        obtain ⟨q1, hg1⟩ : ∃ X, x0.heap.size = X := ⟨_, rfl⟩
        rw [hy] at hHeld hn ⊢
        rw [hy', hg1] at hb
        rw [hg1]
        clear hy hy'
        replace hb := Lib.hid hb
        replace hq := Lib.hid (hq.out.tr hn)
        try replace hqx := Lib.hid (hqx.out.tr hn)
        replace hzz := Lib.hid (Nat.le_trans hzz.out hn.size)
        clear hn
        refine wpAnyH_ready (rs := [0]) (by kernel_rfl) (by simp) ?_
        refine AllReadyH.cons rfl (fun K hK => ?_) AllReadyH.nil
        have hHeld' := hHeld
        try dsimp only at hHeld'
        go_split_ands
        go_simp
        refine hK.out _ _ ?_ (fun hHeld => ?_)
        · exact (KX.out _ (hq.out.al (.cells #[] 42)))
        clear hK K
        try simp only [List.getElem_toArray, List.getElem_cons_succ, List.getElem_cons_zero, Act.put, List.setIfInBounds_toArray, List.set_cons_zero, List.set_cons_succ]
        have h0 := World.ownsRow_lit (base := base) (e := 42) (size := 2) x1 #[] 0 hzz.out (by unfold maxLen; omega) rfl
        have hn := (Bl.rfl' x1).al (.cells #[] 42)
        obtain ⟨x2, hy⟩ : ∃ X, x1.alloc (.cells #[] 42) = X := ⟨_, rfl⟩
        obtain ⟨gg0, hg0⟩ : ∃ X, x1.heap.size = X := ⟨_, rfl⟩
        rw [hy] at hHeld h0 hn ⊢
        rw [hg0] at h0 ⊢
        clear hy
        replace h0 := Lib.hid h0
        have hne : q1 ≠ gg0 := by have := lt_of_block hb.out; omega
        replace hb := Lib.hid (blk_bl hb.out hn)
        replace hq := Lib.hid (hq.out.tr hn)
        try replace hqx := Lib.hid (hqx.out.tr hn)
        replace hzz := Lib.hid (Nat.le_trans hzz.out hn.size)
        clear hn
        refine wpAnyH_ready (rs := [2]) (by kernel_rfl) (by simp) ?_
        refine AllReadyH.cons rfl (fun K hK => ?_) AllReadyH.nil
        refine step_append_feed rfl (.tmp 59) (.tmp 60) 22 rfl base 42 iu (.agg #[S ByteArray.empty, S ByteArray.empty]) 2 32 Try.underlying22 hiu zu0 zu1 zu2 rfl (by decide) _ 0 [] (by first | rfl | simp [Act.eval, Act.put]) h0.out _ ln (flatB hB A) (FA.out _ hq.out) (flat_one A) (by first | rfl | simp [Act.eval, Act.put]) (by omega) (by omega) hzz.out ?_
        intro v5 x3 hown5 hgrow5
        replace hb := Lib.hid ((hgrow5.block q1 (lt_of_block hb.out) (fun e => hne (Option.some.inj e))).trans hb.out)
        replace hq := Lib.hid (hq.out.grown hgrow5 (fun k hk => by have := (h0.out.lt k hk).1; omega))
        try replace hqx := Lib.hid (hqx.out.grown hgrow5 (fun k hk => by rw [hbase.out]; exact (h0.out.lt k hk).1))
        replace hzz := Lib.hid (Nat.le_trans hzz.out hgrow5.size)
        obtain ⟨oa, og, ocap, ocur, rfl, -⟩ := own_blk hown5 (by decide)
        rw [Nat.zero_add] at hown5 ⊢
        rw [List.nil_append] at hown5
        have hA5 := Lib.hid hown5
        clear hown5 hgrow5 h0
        refine hK.out _ _ ?_ (fun hHeld => ?_)
        · exact (KX.out _ hq.out)
        clear hK K
        try simp only [List.getElem_toArray, List.getElem_cons_succ, List.getElem_cons_zero, Act.put, List.setIfInBounds_toArray, List.set_cons_zero, List.set_cons_succ]
        refine wpAnyH_ready (rs := [5]) (by kernel_rfl) (by simp) ?_
        refine AllReadyH.cons rfl (fun K hK => ?_) AllReadyH.nil
        refine step_append_feed rfl (.tmp 61) (.tmp 63) 22 rfl base 42 iu (.agg #[S ByteArray.empty, S ByteArray.empty]) 2 32 Try.underlying22 hiu zu0 zu1 zu2 rfl (by decide) _ ln (flatB hB A) (by first | rfl | simp [Act.eval, Act.put]) hA5.out _ 1 [S on, S ou] (Or.inr ⟨⟨q1, 0, none⟩, 1, rfl, rfl, fun j x hj => by rw [add_plain, Nat.zero_add, cell_at hb.out]; simpa using hj⟩) (by intro u hu; simp at hu; rcases hu with rfl | rfl <;> rfl) (by first | rfl | simp [Act.eval, Act.put]) (by omega) (by omega) hzz.out ?_
        intro v7 x4 hown7 hgrow7
        replace hq := Lib.hid (hq.out.grown hgrow7 (fun k hk => by have := (hA5.out.lt k hk).1; omega))
        try replace hqx := Lib.hid (hqx.out.grown hgrow7 (fun k hk => by rw [hbase.out]; exact (hA5.out.lt k hk).1))
        obtain ⟨oa7, og7, ocap7, ocur7, rfl, -⟩ := own_blk hown7 (by decide)
        have hO7 : OwnB hB 2 42 x4 base (.slice oa7 (ln + 1) ocap7) (A ++ [⟨on, ou⟩]) := by unfold OwnB; rw [flatB_snoc, List.length_append, hln]; exact hown7
        clear hown7 hgrow7
        refine hK.out _ _ ?_ (fun hHeld => ?_)
        · exact (KX.out _ hq.out)
        clear hK K
        try simp only [List.getElem_toArray, List.getElem_cons_succ, List.getElem_cons_zero, Act.put, List.setIfInBounds_toArray, List.set_cons_zero, List.set_cons_succ]
        refine wpAnyH_take (i := 6) (v := ?v6_30) rfl (by kernel_rfl) (by kernel_rfl) (by kernel_rfl) (fun _ _ _ h => h) (Or.inl ⟨by rfl, ?y6_30⟩) hHeld ?r6_30
        case y6_30 => (intro w hSw; (try dsimp only at hSw); go_split_ands; go_simp; try with_reducible rfl)
        try simp only [List.getElem_toArray, List.getElem_cons_succ, List.getElem_cons_zero, Act.put, List.setIfInBounds_toArray, List.set_cons_zero, List.set_cons_succ]
        refine wpAnyH_done (by kernel_rfl) ?_ _
        go_wp2_with fail
        go_meet
        case rel => exact ⟨heads_own hO7, hq.out⟩
    case rest =>
      obtain ⟨hM, hbc2⟩ := hcut
      obtain ⟨c0, c1, c2, d0, d1, e0, e1, e2⟩ := KX.out _ hbc2
      have F6 := FI.out _ H _ (A ++ [⟨on, ou⟩]) wc (HH.out _ hbc2) hM (by rw [List.length_append, hln]; simp; omega) (by omega)
      go_upto_region 12 with fail
      go_cut [81] from 65 to 81 (fun b wx => b = .bool false ∧ Bl y5 wx)
      case first =>
        cases gb with
        | true =>
          clear F6
          replace hbc2 := Lib.hid hbc2
          replace hM := Lib.hid hM
          go_wp2_with fail
          go_meet
          case rel => exact ⟨rfl, hbc2.out⟩
        | false =>
          cases ft with
          | false =>
            clear F6
            replace hbc2 := Lib.hid hbc2
            replace hM := Lib.hid hM
            go_wp2_with fail
            go_meet
            case rel => exact ⟨rfl, hbc2.out⟩
          | true =>
            rw [hfm.out rfl] at F6
            replace F6 := Lib.hid F6
            replace hbc2 := Lib.hid hbc2
            replace hM := Lib.hid hM
            by_cases h8 : ln < 8
            · have k1 : decide ((ln : Int) < 8) = true := decide_eq_true (by omega)
              have k2 : decide (ln < 8) = true := decide_eq_true h8
              go_wp2_with fail
              with_reducible refine (F6.out).mono ?_
              rintro e w' ⟨rfl, hn⟩
              have hbz := hbc2.out.tr hn
              replace hbz := Lib.hid hbz
              clear hn
              go_wp2_with fail
              go_meet
              case rel => exact ⟨rfl, hbz.out⟩
            · have k1 : decide ((ln : Int) < 8) = false := decide_eq_false (by omega)
              have k2 : decide (ln < 8) = false := decide_eq_false h8
              clear F6
              go_wp2_with fail
              go_meet
              case rel => exact ⟨rfl, hbc2.out⟩
      case rest =>
        obtain ⟨rfl, hbc3⟩ := hcut
        clear F6 c0 c1 c2 d0 d1 e0 e1 e2 hbc2 hM hbc hfm
        obtain ⟨c0, c1, c2, d0, d1, e0, e1, e2⟩ := KX.out _ hbc3
        obtain ⟨ks, kb, hkv⟩ := get_tup H on
        have RH := rget_any _ H on wc (HH.out _ hbc3) (by omega)
        rw [hkv] at RH
        have b4 := heap_alloc_new wc (oM p x (.slice ra nn rc))
        have i7 := (Bl.rfl' wc).al (oM p x (.slice ra nn rc))
        obtain ⟨y7, h7⟩ : ∃ X, wc.alloc (.cells #[.string p, .bool x, .slice ra nn rc] 29) = X := ⟨_, rfl⟩
        have hh : wc.alloc (oM p x (.slice ra nn rc)) = y7 := h7
        obtain ⟨r4, e7⟩ : ∃ X, wc.heap.size = X := ⟨_, rfl⟩
        rw [hh] at b4 i7
        rw [e7] at b4
        have t7 := hbc3.tr i7
        have hr4 : y5.heap.size ≤ r4 := by rw [← e7]; exact hbc3.size
        clear hkv hh i7
        replace RH := Lib.hid RH
        replace hbc3 := Lib.hid hbc3
        replace b4 := Lib.hid b4
        replace t7 := Lib.hid t7
        replace h7 := Lib.hid h7
        replace e7 := Lib.hid e7
        go_wp2_with fail
        with_reducible refine (RH.out).mono ?_
        rintro e w' ⟨rfl, rfl⟩
        clear RH
        go_upto_region 16 with fail
        rw [h7.out, e7.out]
        clear h7 e7 c0 c1 c2 d0 d1 e0 e1 e2
        go_cut [20] from 91 to 98 (fun q wx => q = .pointer (some ⟨r4, 0, none⟩) ∧ ∃ v, wx.heap[r4]? = some (oM p x v) ∧ HeadsAt wx v (H ++ [⟨on, ou⟩]) ∧ Bl y5 wx)
        case first =>
          have g0 := t7.out.dr
          have b5 := blk_bl b4.out ((Bl.rfl' y7).dr)
          obtain ⟨x0, hx0⟩ : ∃ X, y7.drew = X := ⟨_, rfl⟩
          rw [hx0] at g0 b5
          have hq := Lib.hid g0
          have KR := Lib.hid (fun w' (hb : Bl x0 w') => blk_bl b5 hb)
          have hqx := Lib.hid (Bl.rfl' x0)
          have FA : ∀ w', Bl y5 w' → Feed w' (.slice ra nn rc) nn 2 (flatB hB H) := fun w' hb => by
            have := heads_feed (HH.out w' hb)
            rw [hnn] at this
            exact this
          obtain ⟨base, hbase⟩ : ∃ X, x0.heap.size = X := ⟨_, rfl⟩
          have hr5 : r4 < base := by rw [← hbase]; exact lt_of_block b5
          have hbs : y5.heap.size ≤ base := by rw [← hbase]; exact g0.size
          have hzz : base ≤ x0.heap.size := by omega
          clear g0 b5
          replace FA := Lib.hid FA
          replace hzz := Lib.hid hzz
          replace hbase := Lib.hid hbase
          refine wp_region_held_drew (S := fun w' => w'.cell? ⟨r1, 0, none⟩ = some (S p) ∧ w'.cell? ⟨r1, 1, none⟩ = some (.bool x) ∧ w'.cell? ⟨r1, 2, none⟩ = some (.slice ra nn rc) ∧ w'.cell? ⟨r2, 0, none⟩ = some (S on) ∧ w'.cell? ⟨r2, 1, none⟩ = some (S ou) ∧ w'.cell? ⟨r3, 0, none⟩ = some (S p) ∧ w'.cell? ⟨r3, 1, none⟩ = some (.bool x) ∧ w'.cell? ⟨r3, 2, none⟩ = some nilH) (by kernel_rfl) ?_ (fun hHeld => ?_)
          · exact KX.out _ (by rw [hx0]; exact hq.out)
          rw [hx0] at hHeld ⊢
          clear hx0
          refine wpAnyH_take (i := 1) (v := ?v1_31) rfl (by kernel_rfl) (by kernel_rfl) (by kernel_rfl) (fun _ _ _ h => h) (Or.inl ⟨by rfl, ?y1_31⟩) hHeld ?r1_31
          case y1_31 => (intro w hSw; (try dsimp only at hSw); go_split_ands; go_simp; try with_reducible rfl)
          try simp only [List.getElem_toArray, List.getElem_cons_succ, List.getElem_cons_zero, Act.put, List.setIfInBounds_toArray, List.set_cons_zero, List.set_cons_succ]
          refine wpAnyH_take (i := 2) (v := ?v2_32) rfl (by kernel_rfl) (by kernel_rfl) (by kernel_rfl) (fun _ _ _ h => h) (Or.inl ⟨by rfl, ?y2_32⟩) hHeld ?r2_32
          case y2_32 => (intro w hSw; (try dsimp only at hSw); go_split_ands; go_simp; try with_reducible rfl)
          try simp only [List.getElem_toArray, List.getElem_cons_succ, List.getElem_cons_zero, Act.put, List.setIfInBounds_toArray, List.set_cons_zero, List.set_cons_succ]
          refine wpAnyH_take (i := 4) (v := ?v4_33) rfl (by kernel_rfl) (by kernel_rfl) (by kernel_rfl) (fun _ _ _ h => h) (Or.inl ⟨by rfl, ?y4_33⟩) hHeld ?r4_33
          case y4_33 => (intro w hSw; (try dsimp only at hSw); go_split_ands; go_simp; try with_reducible rfl)
          try simp only [List.getElem_toArray, List.getElem_cons_succ, List.getElem_cons_zero, Act.put, List.setIfInBounds_toArray, List.set_cons_zero, List.set_cons_succ]
          refine wpAnyH_ready (rs := [0, 5]) (by kernel_rfl) (by simp) ?_
          refine AllReadyH.cons rfl (fun K hK => ?_) (AllReadyH.cons rfl (fun K hK => ?_) (AllReadyH.nil))
          · have hHeld' := hHeld
            try dsimp only at hHeld'
            go_split_ands
            go_simp
            refine hK.out _ _ ?_ (fun hHeld => ?_)
            · exact (KX.out _ (hq.out.al (.cells #[] 42)))
            clear hK K
            try simp only [List.getElem_toArray, List.getElem_cons_succ, List.getElem_cons_zero, Act.put, List.setIfInBounds_toArray, List.set_cons_zero, List.set_cons_succ]
            have h0 := World.ownsRow_lit (base := base) (e := 42) (size := 2) x0 #[] 0 hzz.out (by unfold maxLen; omega) rfl
            have hn := (Bl.rfl' x0).al (.cells #[] 42)
            obtain ⟨x1, hy⟩ : ∃ X, x0.alloc (.cells #[] 42) = X := ⟨_, rfl⟩
            obtain ⟨gg0, hg0⟩ : ∃ X, x0.heap.size = X := ⟨_, rfl⟩
            rw [hy] at hHeld h0 hn ⊢
            rw [hg0] at h0 ⊢
            clear hy
            replace h0 := Lib.hid h0
            replace hq := Lib.hid (hq.out.tr hn)
            try replace hqx := Lib.hid (hqx.out.tr hn)
            replace hzz := Lib.hid (Nat.le_trans hzz.out hn.size)
            clear hn
            refine wpAnyH_ready (rs := [3, 5]) (by kernel_rfl) (by simp) ?_
            refine AllReadyH.cons rfl (fun K hK => ?_) (AllReadyH.cons rfl (fun K hK => ?_) (AllReadyH.nil))
            · refine step_append_feed rfl (.tmp 91) (.tmp 93) 22 rfl base 42 iu (.agg #[S ByteArray.empty, S ByteArray.empty]) 2 32 Try.underlying22 hiu zu0 zu1 zu2 rfl (by decide) _ 0 [] (by first | rfl | simp [Act.eval, Act.put]) h0.out _ nn (flatB hB H) (FA.out _ hq.out) (flat_one H) (by first | rfl | simp [Act.eval, Act.put]) (by omega) (by omega) hzz.out ?_
              intro v5 x2 hown5 hgrow5
              replace hq := Lib.hid (hq.out.grown hgrow5 (fun k hk => by have := (h0.out.lt k hk).1; omega))
              try replace hqx := Lib.hid (hqx.out.grown hgrow5 (fun k hk => by rw [hbase.out]; exact (h0.out.lt k hk).1))
              replace hzz := Lib.hid (Nat.le_trans hzz.out hgrow5.size)
              obtain ⟨oa, og, ocap, ocur, rfl, -⟩ := own_blk hown5 (by decide)
              rw [Nat.zero_add] at hown5 ⊢
              rw [List.nil_append] at hown5
              have hA5 := Lib.hid hown5
              clear hown5 hgrow5 h0
              refine hK.out _ _ ?_ (fun hHeld => ?_)
              · exact (KX.out _ hq.out)
              clear hK K
              try simp only [List.getElem_toArray, List.getElem_cons_succ, List.getElem_cons_zero, Act.put, List.setIfInBounds_toArray, List.set_cons_zero, List.set_cons_succ]
              refine wpAnyH_ready (rs := [5]) (by kernel_rfl) (by simp) ?_
              refine AllReadyH.cons rfl (fun K hK => ?_) AllReadyH.nil
              have hHeld' := hHeld
              try dsimp only at hHeld'
              go_split_ands
              go_simp
              refine hK.out _ _ ?_ (fun hHeld => ?_)
              · exact (KX.out _ (hq.out.al (.cells #[S on, S ou] 42)))
              clear hK K
              try simp only [List.getElem_toArray, List.getElem_cons_succ, List.getElem_cons_zero, Act.put, List.setIfInBounds_toArray, List.set_cons_zero, List.set_cons_succ]
              have hb := heap_alloc_new x2 (oH ⟨on, ou⟩)
              have hn := (Bl.rfl' x2).al (.cells #[S on, S ou] 42)
              obtain ⟨x3, hy⟩ : ∃ X, x2.alloc (.cells #[S on, S ou] 42) = X := ⟨_, rfl⟩
              have hy' : x2.alloc (oH ⟨on, ou⟩) = x3 := hy
              obtain ⟨q1, hg1⟩ : ∃ X, x2.heap.size = X := ⟨_, rfl⟩
              rw [hy] at hHeld hn ⊢
              rw [hy', hg1] at hb
              rw [hg1]
              clear hy hy'
              replace hb := Lib.hid hb
              replace hA5 := Lib.hid (own_below hA5.out hn)
              replace hq := Lib.hid (hq.out.tr hn)
              try replace hqx := Lib.hid (hqx.out.tr hn)
              replace hzz := Lib.hid (Nat.le_trans hzz.out hn.size)
              clear hn
              refine wpAnyH_ready (rs := [6]) (by kernel_rfl) (by simp) ?_
              refine AllReadyH.cons rfl (fun K hK => ?_) AllReadyH.nil
              refine step_append_feed rfl (.tmp 94) (.tmp 96) 22 rfl base 42 iu (.agg #[S ByteArray.empty, S ByteArray.empty]) 2 32 Try.underlying22 hiu zu0 zu1 zu2 rfl (by decide) _ nn (flatB hB H) (by first | rfl | simp [Act.eval, Act.put]) hA5.out _ 1 [S on, S ou] (Or.inr ⟨⟨q1, 0, none⟩, 1, rfl, rfl, fun j x hj => by rw [add_plain, Nat.zero_add, cell_at hb.out]; simpa using hj⟩) (by intro u hu; simp at hu; rcases hu with rfl | rfl <;> rfl) (by first | rfl | simp [Act.eval, Act.put]) (by omega) (by omega) hzz.out ?_
              intro v7 x4 hown7 hgrow7
              replace hq := Lib.hid (hq.out.grown hgrow7 (fun k hk => by have := (hA5.out.lt k hk).1; omega))
              try replace hqx := Lib.hid (hqx.out.grown hgrow7 (fun k hk => by rw [hbase.out]; exact (hA5.out.lt k hk).1))
              obtain ⟨oa7, og7, ocap7, ocur7, rfl, -⟩ := own_blk hown7 (by decide)
              have hO7 : OwnB hB 2 42 x4 base (.slice oa7 (nn + 1) ocap7) (H ++ [⟨on, ou⟩]) := by unfold OwnB; rw [flatB_snoc, List.length_append, hnn]; exact hown7
              clear hown7 hgrow7
              refine hK.out _ _ ?_ (fun hHeld => ?_)
              · exact (KX.out _ hq.out)
              clear hK K
              try simp only [List.getElem_toArray, List.getElem_cons_succ, List.getElem_cons_zero, Act.put, List.setIfInBounds_toArray, List.set_cons_zero, List.set_cons_succ]
              refine wpAnyH_take (i := 7) (v := ?v7_34) rfl (by kernel_rfl) (by kernel_rfl) (by kernel_rfl) (fun _ _ _ h => h) (Or.inl ⟨by rfl, ?y7_34⟩) hHeld ?r7_34
              case y7_34 => (intro w hSw; (try dsimp only at hSw); go_split_ands; go_simp; try with_reducible rfl)
              try simp only [List.getElem_toArray, List.getElem_cons_succ, List.getElem_cons_zero, Act.put, List.setIfInBounds_toArray, List.set_cons_zero, List.set_cons_succ]
              have hR := KR.out _ hqx.out
              have kf := free_at hR
              have k2 := cell_at hR 2
              simp only [List.getElem?_toArray, List.getElem?_cons_succ, List.getElem?_cons_zero] at k2
              have hR8 := set_at 2 (.slice oa7 (nn + 1) ocap7) hR
              simp only [List.setIfInBounds_toArray, List.set_cons_zero, List.set_cons_succ] at hR8
              have g8 := gby_set x4 r4 2 (.slice oa7 (nn + 1) ocap7)
              have hO8 := heads_own (OwnB.gby hO7 g8 hr5)
              have hb8 := hq.out.gp g8 hr4
              obtain ⟨x9, hw8⟩ : ∃ X, x4.setCell ⟨r4, 2, none⟩ (.slice oa7 (nn + 1) ocap7) = X := ⟨_, rfl⟩
              rw [hw8] at hR8 hO8 hb8
              clear hO7 g8 hR
              replace hR8 := Lib.hid hR8
              replace hO8 := Lib.hid hO8
              replace hb8 := Lib.hid hb8
              refine wpAnyH_ready (rs := [8]) (by kernel_rfl) (by simp) ?_
              refine AllReadyH.cons rfl (fun K hK => ?_) AllReadyH.nil
              have hHeld' := hHeld
              try dsimp only at hHeld'
              go_split_ands
              go_simp
              refine hK.out _ _ ?_ (fun hHeld => ?_)
              · exact (KX.out _ hb8.out)
              clear hK K
              try simp only [List.getElem_toArray, List.getElem_cons_succ, List.getElem_cons_zero, Act.put, List.setIfInBounds_toArray, List.set_cons_zero, List.set_cons_succ]
              refine wpAnyH_done (by kernel_rfl) ?_ _
              go_wp2_with fail
              go_meet
              case rel => exact ⟨rfl, _, hR8.out, hO8.out, hb8.out⟩
            · have hHeld' := hHeld
              try dsimp only at hHeld'
              go_split_ands
              go_simp
              refine hK.out _ _ ?_ (fun hHeld => ?_)
              · exact (KX.out _ (hq.out.al (.cells #[S on, S ou] 42)))
              clear hK K
              try simp only [List.getElem_toArray, List.getElem_cons_succ, List.getElem_cons_zero, Act.put, List.setIfInBounds_toArray, List.set_cons_zero, List.set_cons_succ]
              have hb := heap_alloc_new x1 (oH ⟨on, ou⟩)
              have hn := (Bl.rfl' x1).al (.cells #[S on, S ou] 42)
              obtain ⟨x2, hy⟩ : ∃ X, x1.alloc (.cells #[S on, S ou] 42) = X := ⟨_, rfl⟩
              have hy' : x1.alloc (oH ⟨on, ou⟩) = x2 := hy
              obtain ⟨q1, hg1⟩ : ∃ X, x1.heap.size = X := ⟨_, rfl⟩
              rw [hy] at hHeld hn ⊢
              rw [hy', hg1] at hb
              rw [hg1]
              clear hy hy'
              replace hb := Lib.hid hb
              have hne : q1 ≠ gg0 := by have := (h0.out.lt gg0 rfl).2; omega
              replace h0 := Lib.hid (own_below h0.out hn)
              replace hq := Lib.hid (hq.out.tr hn)
              try replace hqx := Lib.hid (hqx.out.tr hn)
              replace hzz := Lib.hid (Nat.le_trans hzz.out hn.size)
              clear hn
              refine wpAnyH_ready (rs := [3]) (by kernel_rfl) (by simp) ?_
              refine AllReadyH.cons rfl (fun K hK => ?_) AllReadyH.nil
              refine step_append_feed rfl (.tmp 91) (.tmp 93) 22 rfl base 42 iu (.agg #[S ByteArray.empty, S ByteArray.empty]) 2 32 Try.underlying22 hiu zu0 zu1 zu2 rfl (by decide) _ 0 [] (by first | rfl | simp [Act.eval, Act.put]) h0.out _ nn (flatB hB H) (FA.out _ hq.out) (flat_one H) (by first | rfl | simp [Act.eval, Act.put]) (by omega) (by omega) hzz.out ?_
              intro v5 x3 hown5 hgrow5
              replace hb := Lib.hid ((hgrow5.block q1 (lt_of_block hb.out) (fun e => hne (Option.some.inj e))).trans hb.out)
              replace hq := Lib.hid (hq.out.grown hgrow5 (fun k hk => by have := (h0.out.lt k hk).1; omega))
              try replace hqx := Lib.hid (hqx.out.grown hgrow5 (fun k hk => by rw [hbase.out]; exact (h0.out.lt k hk).1))
              replace hzz := Lib.hid (Nat.le_trans hzz.out hgrow5.size)
              obtain ⟨oa, og, ocap, ocur, rfl, -⟩ := own_blk hown5 (by decide)
              rw [Nat.zero_add] at hown5 ⊢
              rw [List.nil_append] at hown5
              have hA5 := Lib.hid hown5
              clear hown5 hgrow5 h0
              refine hK.out _ _ ?_ (fun hHeld => ?_)
              · exact (KX.out _ hq.out)
              clear hK K
              try simp only [List.getElem_toArray, List.getElem_cons_succ, List.getElem_cons_zero, Act.put, List.setIfInBounds_toArray, List.set_cons_zero, List.set_cons_succ]
              refine wpAnyH_ready (rs := [6]) (by kernel_rfl) (by simp) ?_
              refine AllReadyH.cons rfl (fun K hK => ?_) AllReadyH.nil
              refine step_append_feed rfl (.tmp 94) (.tmp 96) 22 rfl base 42 iu (.agg #[S ByteArray.empty, S ByteArray.empty]) 2 32 Try.underlying22 hiu zu0 zu1 zu2 rfl (by decide) _ nn (flatB hB H) (by first | rfl | simp [Act.eval, Act.put]) hA5.out _ 1 [S on, S ou] (Or.inr ⟨⟨q1, 0, none⟩, 1, rfl, rfl, fun j x hj => by rw [add_plain, Nat.zero_add, cell_at hb.out]; simpa using hj⟩) (by intro u hu; simp at hu; rcases hu with rfl | rfl <;> rfl) (by first | rfl | simp [Act.eval, Act.put]) (by omega) (by omega) hzz.out ?_
              intro v7 x4 hown7 hgrow7
              replace hq := Lib.hid (hq.out.grown hgrow7 (fun k hk => by have := (hA5.out.lt k hk).1; omega))
              try replace hqx := Lib.hid (hqx.out.grown hgrow7 (fun k hk => by rw [hbase.out]; exact (hA5.out.lt k hk).1))
              obtain ⟨oa7, og7, ocap7, ocur7, rfl, -⟩ := own_blk hown7 (by decide)
              have hO7 : OwnB hB 2 42 x4 base (.slice oa7 (nn + 1) ocap7) (H ++ [⟨on, ou⟩]) := by unfold OwnB; rw [flatB_snoc, List.length_append, hnn]; exact hown7
              clear hown7 hgrow7
              refine hK.out _ _ ?_ (fun hHeld => ?_)
              · exact (KX.out _ hq.out)
              clear hK K
              try simp only [List.getElem_toArray, List.getElem_cons_succ, List.getElem_cons_zero, Act.put, List.setIfInBounds_toArray, List.set_cons_zero, List.set_cons_succ]
              refine wpAnyH_take (i := 7) (v := ?v7_35) rfl (by kernel_rfl) (by kernel_rfl) (by kernel_rfl) (fun _ _ _ h => h) (Or.inl ⟨by rfl, ?y7_35⟩) hHeld ?r7_35
              case y7_35 => (intro w hSw; (try dsimp only at hSw); go_split_ands; go_simp; try with_reducible rfl)
              try simp only [List.getElem_toArray, List.getElem_cons_succ, List.getElem_cons_zero, Act.put, List.setIfInBounds_toArray, List.set_cons_zero, List.set_cons_succ]
              have hR := KR.out _ hqx.out
              have kf := free_at hR
              have k2 := cell_at hR 2
              simp only [List.getElem?_toArray, List.getElem?_cons_succ, List.getElem?_cons_zero] at k2
              have hR8 := set_at 2 (.slice oa7 (nn + 1) ocap7) hR
              simp only [List.setIfInBounds_toArray, List.set_cons_zero, List.set_cons_succ] at hR8
              have g8 := gby_set x4 r4 2 (.slice oa7 (nn + 1) ocap7)
              have hO8 := heads_own (OwnB.gby hO7 g8 hr5)
              have hb8 := hq.out.gp g8 hr4
              obtain ⟨x9, hw8⟩ : ∃ X, x4.setCell ⟨r4, 2, none⟩ (.slice oa7 (nn + 1) ocap7) = X := ⟨_, rfl⟩
              rw [hw8] at hR8 hO8 hb8
              clear hO7 g8 hR
              replace hR8 := Lib.hid hR8
              replace hO8 := Lib.hid hO8
              replace hb8 := Lib.hid hb8
              refine wpAnyH_ready (rs := [8]) (by kernel_rfl) (by simp) ?_
              refine AllReadyH.cons rfl (fun K hK => ?_) AllReadyH.nil
              have hHeld' := hHeld
              try dsimp only at hHeld'
              go_split_ands
              go_simp
              refine hK.out _ _ ?_ (fun hHeld => ?_)
              · exact (KX.out _ hb8.out)
              clear hK K
              try simp only [List.getElem_toArray, List.getElem_cons_succ, List.getElem_cons_zero, Act.put, List.setIfInBounds_toArray, List.set_cons_zero, List.set_cons_succ]
              refine wpAnyH_done (by kernel_rfl) ?_ _
              go_wp2_with fail
              go_meet
              case rel => exact ⟨rfl, _, hR8.out, hO8.out, hb8.out⟩
          · have hHeld' := hHeld
            try dsimp only at hHeld'
            go_split_ands
            go_simp
            refine hK.out _ _ ?_ (fun hHeld => ?_)
            · exact (KX.out _ (hq.out.al (.cells #[S on, S ou] 42)))
            clear hK K
            try simp only [List.getElem_toArray, List.getElem_cons_succ, List.getElem_cons_zero, Act.put, List.setIfInBounds_toArray, List.set_cons_zero, List.set_cons_succ]
            have hb := heap_alloc_new x0 (oH ⟨on, ou⟩)
            have hn := (Bl.rfl' x0).al (.cells #[S on, S ou] 42)
            obtain ⟨x1, hy⟩ : ∃ X, x0.alloc (.cells #[S on, S ou] 42) = X := ⟨_, rfl⟩
            have hy' : x0.alloc (oH ⟨on, ou⟩) = x1 := hy
            obtain ⟨q1, hg1⟩ : ∃ X, x0.heap.size = X := ⟨_, rfl⟩
            rw [hy] at hHeld hn ⊢
            rw [hy', hg1] at hb
            rw [hg1]
            clear hy hy'
            replace hb := Lib.hid hb
            replace hq := Lib.hid (hq.out.tr hn)
            try replace hqx := Lib.hid (hqx.out.tr hn)
            replace hzz := Lib.hid (Nat.le_trans hzz.out hn.size)
            clear hn
            refine wpAnyH_ready (rs := [0]) (by kernel_rfl) (by simp) ?_
            refine AllReadyH.cons rfl (fun K hK => ?_) AllReadyH.nil
            have hHeld' := hHeld
            try dsimp only at hHeld'
            go_split_ands
            go_simp
            refine hK.out _ _ ?_ (fun hHeld => ?_)
            · exact (KX.out _ (hq.out.al (.cells #[] 42)))
            clear hK K
            try simp only [List.getElem_toArray, List.getElem_cons_succ, List.getElem_cons_zero, Act.put, List.setIfInBounds_toArray, List.set_cons_zero, List.set_cons_succ]
            have h0 := World.ownsRow_lit (base := base) (e := 42) (size := 2) x1 #[] 0 hzz.out (by unfold maxLen; omega) rfl
            have hn := (Bl.rfl' x1).al (.cells #[] 42)
            obtain ⟨x2, hy⟩ : ∃ X, x1.alloc (.cells #[] 42) = X := ⟨_, rfl⟩
            obtain ⟨gg0, hg0⟩ : ∃ X, x1.heap.size = X := ⟨_, rfl⟩
            rw [hy] at hHeld h0 hn ⊢
            rw [hg0] at h0 ⊢
            clear hy
            replace h0 := Lib.hid h0
            have hne : q1 ≠ gg0 := by have := lt_of_block hb.out; omega
            replace hb := Lib.hid (blk_bl hb.out hn)
            replace hq := Lib.hid (hq.out.tr hn)
            try replace hqx := Lib.hid (hqx.out.tr hn)
            replace hzz := Lib.hid (Nat.le_trans hzz.out hn.size)
            clear hn
            refine wpAnyH_ready (rs := [3]) (by kernel_rfl) (by simp) ?_
            refine AllReadyH.cons rfl (fun K hK => ?_) AllReadyH.nil
            refine step_append_feed rfl (.tmp 91) (.tmp 93) 22 rfl base 42 iu (.agg #[S ByteArray.empty, S ByteArray.empty]) 2 32 Try.underlying22 hiu zu0 zu1 zu2 rfl (by decide) _ 0 [] (by first | rfl | simp [Act.eval, Act.put]) h0.out _ nn (flatB hB H) (FA.out _ hq.out) (flat_one H) (by first | rfl | simp [Act.eval, Act.put]) (by omega) (by omega) hzz.out ?_
            intro v5 x3 hown5 hgrow5
            replace hb := Lib.hid ((hgrow5.block q1 (lt_of_block hb.out) (fun e => hne (Option.some.inj e))).trans hb.out)
            replace hq := Lib.hid (hq.out.grown hgrow5 (fun k hk => by have := (h0.out.lt k hk).1; omega))
            try replace hqx := Lib.hid (hqx.out.grown hgrow5 (fun k hk => by rw [hbase.out]; exact (h0.out.lt k hk).1))
            replace hzz := Lib.hid (Nat.le_trans hzz.out hgrow5.size)
            obtain ⟨oa, og, ocap, ocur, rfl, -⟩ := own_blk hown5 (by decide)
            rw [Nat.zero_add] at hown5 ⊢
            rw [List.nil_append] at hown5
            have hA5 := Lib.hid hown5
            clear hown5 hgrow5 h0
            refine hK.out _ _ ?_ (fun hHeld => ?_)
            · exact (KX.out _ hq.out)
            clear hK K
            try simp only [List.getElem_toArray, List.getElem_cons_succ, List.getElem_cons_zero, Act.put, List.setIfInBounds_toArray, List.set_cons_zero, List.set_cons_succ]
            refine wpAnyH_ready (rs := [6]) (by kernel_rfl) (by simp) ?_
            refine AllReadyH.cons rfl (fun K hK => ?_) AllReadyH.nil
            refine step_append_feed rfl (.tmp 94) (.tmp 96) 22 rfl base 42 iu (.agg #[S ByteArray.empty, S ByteArray.empty]) 2 32 Try.underlying22 hiu zu0 zu1 zu2 rfl (by decide) _ nn (flatB hB H) (by first | rfl | simp [Act.eval, Act.put]) hA5.out _ 1 [S on, S ou] (Or.inr ⟨⟨q1, 0, none⟩, 1, rfl, rfl, fun j x hj => by rw [add_plain, Nat.zero_add, cell_at hb.out]; simpa using hj⟩) (by intro u hu; simp at hu; rcases hu with rfl | rfl <;> rfl) (by first | rfl | simp [Act.eval, Act.put]) (by omega) (by omega) hzz.out ?_
            intro v7 x4 hown7 hgrow7
            replace hq := Lib.hid (hq.out.grown hgrow7 (fun k hk => by have := (hA5.out.lt k hk).1; omega))
            try replace hqx := Lib.hid (hqx.out.grown hgrow7 (fun k hk => by rw [hbase.out]; exact (hA5.out.lt k hk).1))
            obtain ⟨oa7, og7, ocap7, ocur7, rfl, -⟩ := own_blk hown7 (by decide)
            have hO7 : OwnB hB 2 42 x4 base (.slice oa7 (nn + 1) ocap7) (H ++ [⟨on, ou⟩]) := by unfold OwnB; rw [flatB_snoc, List.length_append, hnn]; exact hown7
            clear hown7 hgrow7
            refine hK.out _ _ ?_ (fun hHeld => ?_)
            · exact (KX.out _ hq.out)
            clear hK K
            try simp only [List.getElem_toArray, List.getElem_cons_succ, List.getElem_cons_zero, Act.put, List.setIfInBounds_toArray, List.set_cons_zero, List.set_cons_succ]
            refine wpAnyH_take (i := 7) (v := ?v7_36) rfl (by kernel_rfl) (by kernel_rfl) (by kernel_rfl) (fun _ _ _ h => h) (Or.inl ⟨by rfl, ?y7_36⟩) hHeld ?r7_36
            case y7_36 => (intro w hSw; (try dsimp only at hSw); go_split_ands; go_simp; try with_reducible rfl)
            try simp only [List.getElem_toArray, List.getElem_cons_succ, List.getElem_cons_zero, Act.put, List.setIfInBounds_toArray, List.set_cons_zero, List.set_cons_succ]
            have hR := KR.out _ hqx.out
            have kf := free_at hR
            have k2 := cell_at hR 2
            simp only [List.getElem?_toArray, List.getElem?_cons_succ, List.getElem?_cons_zero] at k2
            have hR8 := set_at 2 (.slice oa7 (nn + 1) ocap7) hR
            simp only [List.setIfInBounds_toArray, List.set_cons_zero, List.set_cons_succ] at hR8
            have g8 := gby_set x4 r4 2 (.slice oa7 (nn + 1) ocap7)
            have hO8 := heads_own (OwnB.gby hO7 g8 hr5)
            have hb8 := hq.out.gp g8 hr4
            obtain ⟨x9, hw8⟩ : ∃ X, x4.setCell ⟨r4, 2, none⟩ (.slice oa7 (nn + 1) ocap7) = X := ⟨_, rfl⟩
            rw [hw8] at hR8 hO8 hb8
            clear hO7 g8 hR
            replace hR8 := Lib.hid hR8
            replace hO8 := Lib.hid hO8
            replace hb8 := Lib.hid hb8
            refine wpAnyH_ready (rs := [8]) (by kernel_rfl) (by simp) ?_
            refine AllReadyH.cons rfl (fun K hK => ?_) AllReadyH.nil
            have hHeld' := hHeld
            try dsimp only at hHeld'
            go_split_ands
            go_simp
            refine hK.out _ _ ?_ (fun hHeld => ?_)
            · exact (KX.out _ hb8.out)
            clear hK K
            try simp only [List.getElem_toArray, List.getElem_cons_succ, List.getElem_cons_zero, Act.put, List.setIfInBounds_toArray, List.set_cons_zero, List.set_cons_succ]
            refine wpAnyH_done (by kernel_rfl) ?_ _
            go_wp2_with fail
            go_meet
            case rel => exact ⟨rfl, _, hR8.out, hO8.out, hb8.out⟩
        case rest =>
          obtain ⟨rfl, v9, hR, hM, hbc4⟩ := hcut
          have FS := FI.out _ (H ++ [⟨on, ou⟩]) _ A wc hM (HA.out _ hbc4) (by omega) (by rw [List.length_append, hnn]; simp; omega)
          obtain ⟨ma, mg, mo, mc, rfl, -⟩ := hM
          obtain ⟨ml, hml⟩ : ∃ z_, ((H ++ [(⟨on, ou⟩ : Hd)]).length) = z_ := ⟨_, rfl⟩
          simp only [hml] at hR FS
          have c0 := cell_at hR 0
          have c1 := cell_at hR 1
          have c2 := cell_at hR 2
          simp only [List.getElem?_toArray, List.getElem?_cons_succ, List.getElem?_cons_zero] at c0 c1 c2
          have hfs2 := hfs.out
          obtain ⟨fs, hfsv⟩ : ∃ z_, (fitsF p x (H ++ [⟨on, ou⟩]) s A) = z_ := ⟨_, rfl⟩
          simp only [hfsv] at FS hfs2
          clear hfsv hml hfs
          replace FS := Lib.hid FS
          replace hbc4 := Lib.hid hbc4
          replace hR := Lib.hid hR
          replace hfs2 := Lib.hid hfs2
          cases kb with
          | true =>
            go_wp2_with fail
            with_reducible refine (LV.out _).mono ?_
            rintro e w' ⟨rfl, hn⟩
            have hz := (t6.out.tr hbc4.out).tr hn
            replace hz := Lib.hid hz
            clear hn
            go_wp2_with fail
            go_ret
            exact ⟨rfl, hz.out⟩
          | false =>
            go_wp2_with fail
            with_reducible refine (FS.out).mono ?_
            rintro e w' ⟨rfl, hn⟩
            have hz := (t6.out.tr hbc4.out).tr hn
            replace hz := Lib.hid hz
            clear hn
            cases fs with
            | true =>
              obtain rfl := hfs2.out rfl
              go_wp2_with fail
              with_reducible refine (LV.out _).mono ?_
              rintro e w9 ⟨rfl, hn⟩
              have hz9 := hz.out.tr hn
              replace hz9 := Lib.hid hz9
              clear hn
              go_wp2_with fail
              go_ret
              exact ⟨rfl, hz9.out⟩
            | false =>
              go_wp2_with fail
              with_reducible refine (LV.out _).mono ?_
              rintro e w9 ⟨rfl, hn⟩
              have hz9 := hz.out.tr hn
              replace hz9 := Lib.hid hz9
              clear hn
              go_wp2_with fail
              go_ret
              exact ⟨rfl, hz9.out⟩
end Go.Proofs.Ytpdcadlgdpkkoaa.matchMore
