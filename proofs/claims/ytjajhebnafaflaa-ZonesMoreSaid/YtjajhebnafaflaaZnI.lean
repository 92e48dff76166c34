/-
  Package zones: the example; what laws are handed.
-/
import Derived.Test.YtjajhebnafaflaaZnG
import Derived.Test.YtjajhebnafaflaaZnH
import Derived.Test.YtjajhebnafaflaaSame
import Derived.Test.YtjajhebnafaflaaHas
namespace Go.Proofs.Ytjajhebnafaflaa.zones
open Go.ChangeShapes Go.WideShapes Go.ChangeAt Go.RowKit Go.Shelf
set_option linter.unusedVariables false
set_option linter.unusedSimpArgs false

theorem ints_own {w : World} {base : Nat} {v : Value} {L : List Int} (h : w.ownsRow base 3 1 v L.length (L.map I)) : IntsAt w v L :=
  by
  have h2 := Rd.of_own (g := icell L) h (fun i hi => by
    rw [Nat.mul_one] at hi
    simp [icell, List.getD, List.getElem?_eq_getElem hi])
  rw [Nat.mul_one] at h2
  exact h2
theorem ends_own {w : World} {base : Nat} {v : Value} {R : List En} (h : OwnB eB 3 35 w base v R) (hl : R.length ≤ 1000) : EndsAt w v R := by
  obtain ⟨a, g, cap, rfl, h1, h2, h3, h4⟩ := OwnB.row h (by decide)
  refine ⟨a, g, 0, cap, rfl, row_z h4, ?_, hl⟩
  by_cases h0 : 0 < R.length
  · exact Or.inr (h4.lt h0)
  · exact Or.inl (List.eq_nil_of_length_eq_zero (by omega))
theorem evZ_mem {p : En → Bool} {R : List En} {x : Int} : x ∈ evZ p R R.length ↔ ∃ e ∈ R, p e = true ∧ e.i = x := by
  rw [evZ_all, List.mem_map]
  constructor
  · rintro ⟨e, he, rfl⟩
    rw [List.mem_filter] at he
    exact ⟨e, he.1, he.2, rfl⟩
  · rintro ⟨e, he, hp, rfl⟩
    exact ⟨e, List.mem_filter.2 ⟨he, hp⟩, rfl⟩
theorem srt_mem {z : List Int} {x : Int} : x ∈ srt z ↔ x ∈ z := List.mem_mergeSort
theorem amongL_mem {R : List En} {Z : List Int} {z pc d : Int} {x : Int} : x ∈ amongL R Z z pc d ↔ ∃ e ∈ R, amongP R Z z pc d e = true ∧ e.i = x := by
  unfold amongL
  rw [srt_mem, evZ_mem]
theorem amongL_len (R : List En) (Z : List Int) (z pc d : Int) : (amongL R Z z pc d).length ≤ R.length := by
  unfold amongL
  rw [srt_len]
  exact evZ_len _ _ _

def exR : List En := [⟨1, 0, 1⟩, ⟨2, 0, 1⟩, ⟨3, 0, 2⟩]
theorem ex_home : homeF exR [1, 3] 1 = 50 := by decide
theorem ex_a1 : amongL exR [1, 3] 1 0 49 = [1] := by
  unfold amongL
  rw [show evZ (amongP exR [1, 3] 1 0 49) exR exR.length = [1] from by decide]
  simp [srt]
theorem ex_a2 : amongL exR [1, 3] 1 0 50 = [3] := by
  unfold amongL
  rw [show evZ (amongP exR [1, 3] 1 0 50) exR exR.length = [3] from by decide]
  simp [srt]
theorem ex_panic : panicF exR [] 1 = true := by decide

theorem among_ints (v : Value) (R : List En) (u : Value) (Z : List Int) (z pc d : Int) (w : World) (hv : EndsAt w v R) (hu : IntsAt w u Z) (hm : Z.length ≤ maxLen) (p0 : 0 ≤ pc) (p1 : pc ≤ 1000) :
    Calls Try.prog 15 #[v, u, I z, I pc, I d] w fun e w' => ∃ x, e = .returned x ∧ IntsAt w' x (amongL R Z z pc d) ∧ Bl w w' :=
  (among_any v R u Z z pc d w hv hu hm p0 p1).mono fun e w' ⟨x, h1, h2, h3⟩ => ⟨x, h1, ints_own h2, h3⟩

theorem ints_one (w : World) (x : Int) : IntsAt (w.alloc (.cells #[I x] 3)) (.slice (some ⟨w.heap.size, 0, none⟩) 1 1) [x] :=
  Or.inr ⟨w.heap.size, 0, 1, rfl, Nat.le_refl _, by unfold maxLen; decide, by simp, fun i hi => by
    obtain rfl : i = 0 := by simpa using hi
    rw [cell_at (heap_alloc_new w (.cells #[I x] 3))]; rfl⟩
theorem ints_two (w : World) (x y : Int) : IntsAt (w.alloc (.cells #[I x, I y] 3)) (.slice (some ⟨w.heap.size, 0, none⟩) 2 2) [x, y] :=
  Or.inr ⟨w.heap.size, 0, 2, rfl, Nat.le_refl _, by unfold maxLen; decide, by simp, fun i hi => by
    have hi' : i < 2 := hi
    rw [cell_at (heap_alloc_new w (.cells #[I x, I y] 3))]
    match i, hi' with
    | 0, _ | 1, _ => rfl⟩
theorem ints_nil (w : World) : IntsAt w (.slice none 0 0) [] := Or.inl ⟨none, 0, rfl, rfl, rfl⟩
theorem ends_ex (w : World) : EndsAt (w.alloc (.cells #[I 1, I 0, I 1, I 2, I 0, I 1, I 3, I 0, I 2] 35)) (.slice (some ⟨w.heap.size, 0, none⟩) 3 3) exR :=
  ⟨_, w.heap.size, 0, 3, rfl, fun _ => ⟨rfl, ⟨_, heap_alloc_new w _, rfl⟩, fun j hj => by
    have hj' : j < 9 := hj
    rw [cell_at (heap_alloc_new w _)]
    match j, hj' with
    | 0, _ | 1, _ | 2, _ | 3, _ | 4, _ | 5, _ | 6, _ | 7, _ | 8, _ => rfl⟩, Or.inr (by simp), by decide⟩

set_option maxHeartbeats 4000000 in
theorem lives_any (w : World) : Calls Try.prog 19 #[] w fun e w' => e = .returned (.bool true) ∧ Bl w w' := by
  have hE := ends_ex w
  obtain ⟨w1, hw1⟩ : ∃ x, w.alloc (.cells #[I 1, I 0, I 1, I 2, I 0, I 1, I 3, I 0, I 2] 35) = x := ⟨_, rfl⟩
  rw [hw1] at hE
  have hI := ints_two w1 1 3
  have hb1 : Bl w w1 := by rw [← hw1]; exact (Bl.rfl' _).al _
  have hb2 : Bl w1 (w1.alloc (.cells #[I 1, I 3] 3)) := (Bl.rfl' _).al _
  have H := home_any _ exR _ [1, 3] 1 _ (hE.bl hb2) hI (by decide)
  have A1 := fun X (h : Bl (w1.alloc (.cells #[I 1, I 3] 3)) X) => among_ints _ exR _ [1, 3] 1 0 49 X ((hE.bl hb2).bl h) (Rd.below hI h) (by decide) (by omega) (by omega)
  have A2 := fun X (h : Bl (w1.alloc (.cells #[I 1, I 3] 3)) X) => among_ints _ exR _ [1, 3] 1 0 50 X ((hE.bl hb2).bl h) (Rd.below hI h) (by decide) (by omega) (by omega)
  have P := fun X (h : Bl (w1.alloc (.cells #[I 1, I 3] 3)) X) => panic_any _ exR _ [] 1 X ((hE.bl hb2).bl h) (ints_nil X) (by decide) (by omega) (by omega)
  rw [ex_home] at H
  simp only [ex_a1] at A1
  simp only [ex_a2] at A2
  simp only [ex_panic] at P
  have hb3 := hb1.tr hb2
  replace H := Lib.hid H
  replace A1 := Lib.hid A1
  replace A2 := Lib.hid A2
  replace P := Lib.hid P
  replace hb3 := Lib.hid hb3
  clear hE hI hb1 hb2
  go_enter Try.func19, Try.ntmps19
  go_wp2_with fail
  refine H.out.mono ?_
  rintro e x1 ⟨rfl, k1⟩
  have A1' := A1.out _ k1
  replace A1' := Lib.hid A1'
  go_wp2_with fail
  refine A1'.out.mono ?_
  rintro e x2 ⟨l1, rfl, hl1, k2⟩
  have k2' := k1.tr k2
  have S1 := same_any [1] [1] l1 _ _ (Rd.below hl1 ((Bl.rfl' x2).al (.cells #[I 1] 3))) (ints_one x2 1) (by decide) (by decide)
  have a1 := (Bl.rfl' x2).al (.cells #[I 1] 3)
  simp only [decide_true] at S1
  clear hl1 k1 k2
  replace k2' := Lib.hid k2'
  replace S1 := Lib.hid S1
  go_wp2_with fail
  refine S1.out.mono ?_
  rintro e x3 ⟨rfl, k3⟩
  have k3' := (k2'.out.tr a1).tr k3
  have A2' := A2.out _ k3'
  clear k3 a1
  replace A2' := Lib.hid A2'
  replace k3' := Lib.hid k3'
  go_wp2_with fail
  refine A2'.out.mono ?_
  rintro e x4 ⟨l2, rfl, hl2, k4⟩
  have k4' := k3'.out.tr k4
  have S2 := same_any [3] [3] l2 _ _ (Rd.below hl2 ((Bl.rfl' x4).al (.cells #[I 3] 3))) (ints_one x4 3) (by decide) (by decide)
  have a2 := (Bl.rfl' x4).al (.cells #[I 3] 3)
  simp only [decide_true] at S2
  clear hl2 k4
  replace k4' := Lib.hid k4'
  replace S2 := Lib.hid S2
  go_wp2_with fail
  refine S2.out.mono ?_
  rintro e x5 ⟨rfl, k5⟩
  have k5' := (k4'.out.tr a2).tr k5
  have P' := P.out _ k5'
  clear k5 a2
  replace P' := Lib.hid P'
  replace k5' := Lib.hid k5'
  go_wp2_with fail
  refine P'.out.mono ?_
  rintro e x6 ⟨rfl, k6⟩
  have k6' := (hb3.out.tr k5'.out).tr k6
  replace k6' := Lib.hid k6'
  go_wp2_with fail
  go_ret
  exact ⟨rfl, k6'.out⟩
end Go.Proofs.Ytjajhebnafaflaa.zones
