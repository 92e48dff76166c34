/-
  Package token: the budgets that are made; the document's example.
-/
import Derived.Test.YtionbanfknphoaaTokA
namespace Go.Proofs.Ytionbanfknphoaa.token
open Go.ChangeShapes Go.WideShapes Go.ChangeAt Go.RowKit
set_option linter.unusedVariables false
set_option linter.unusedSimpArgs false

def BudI (w : World) : Ending → World → Prop := fun e w' => ∃ P O B, e = .returned (bud P O B) ∧ okB P O B ∧ Bl w w'
theorem budget_any (n : Int) (w : World) (n0 : -9223372036854775808 ≤ n) (n1 : n ≤ 9223372036854775807) :
    Calls Try.prog 10 #[.int .i64 n] w (BudI w) := by
  have A0 := fun w => around_any n 1000000 w n0 n1 (by omega) (by omega)
  have k0 := around_lo n 1000000 (by omega); have k1 := around_hi n 1000000 (by omega)
  obtain ⟨k, hk⟩ : ∃ t, around n 1000000 = t := ⟨_, rfl⟩
  rw [hk] at A0 k0 k1
  replace A0 := Lib.hid A0
  clear hk
  have fin : ∀ (P O B : Int) (w1 : World), okB P O B → Bl w w1 → BudI w (.returned (bud P O B)) w1 := fun P O B w1 h hb => ⟨P, O, B, rfl, h, hb⟩
  replace fin := Lib.hid fin
  by_cases h7 : k % 31 = 7
  · have e7 : (k % 31 == 7) = true := by simp [h7]
    replace h7 := Lib.hid h7
    go_enter Try.func10, Try.ntmps10
    go_wp2_with fail
    refine (A0.out _).mono ?_
    rintro e w' ⟨rfl, rfl⟩
    go_wp2_with fail
    refine bodyPost_ret (v := bud (k / 31 % 101) (1 + k / 7 % 100) (k / 3 % 101)) (by simp [results, Try.results10, go_sem]) rfl (fin.out _ _ _ _ ?_ (((Bl.rfl' _).al _).al _))
    unfold okB
    omega
  · have e7 : (k % 31 == 7) = false := beq_eq_false_iff_ne.2 h7
    replace h7 := Lib.hid h7
    go_enter Try.func10, Try.ntmps10
    go_wp2_with fail
    refine (A0.out _).mono ?_
    rintro e w' ⟨rfl, rfl⟩
    go_wp2_with fail
    refine bodyPost_ret (v := bud (k % 6) (1 + k / 6 % 7) (k / 42 % 5)) (by simp [results, Try.results10, go_sem]) rfl (fin.out _ _ _ _ ?_ (((Bl.rfl' _).al _).al _))
    unfold okB
    omega

/-- A budget in a variable of the caller's. -/
theorem var_cells {w w' : World} {P O B : Int} {t : TypeId} (h : w'.heap[w.heap.size]? = some (.cells #[I P, I O, I B] t (0, 0))) : w'.cell? ⟨w.heap.size, 0, none⟩ = some (I P) ∧ w'.cell? ⟨w.heap.size, 1, none⟩ = some (I O) ∧ w'.cell? ⟨w.heap.size, 2, none⟩ = some (I B) := by
  refine ⟨?_, ?_, ?_⟩ <;> simp [World.cell?, h]
theorem var_gby {w w' : World} {x p : Nat} {o : Obj} (h : w.heap[x]? = some o) (hg : w.grownBy w' (some p)) (hx : x < p) : w'.heap[x]? = some o := by
  have hlt := lt_of_block h
  rw [hg.block x hlt (fun e => by cases e; omega)]; exact h
theorem var_bl {w w' : World} {x : Nat} {o : Obj} (h : w.heap[x]? = some o) (hg : Bl w w') : w'.heap[x]? = some o := by
  rw [hg.block x (lt_of_block h)]; exact h

theorem lives19 (w : World) : Calls Try.prog 16 #[] w fun e w' => e = .returned (.bool true) ∧ Bl w w' := by
  have hk : okB 1 4 1 := by unfold okB; omega
  go_enter Try.func16, Try.ntmps16
  go_wp2_with fail
  refine (new_any 1 4 1 _ hk).mono ?_
  rintro e w1 ⟨p, rfl, hp, h, hb⟩
  have hv := var_bl (heap_alloc_new w (.cells #[I 1, I 4, I 1] 23)) hb
  have hx : w.heap.size < p := by simp at hp; omega
  have hb0 : Bl w w1 := ((Bl.rfl' w).al _).tr hb
  have hwp : w.heap.size ≤ p := by omega
  clear hb hp
  go_wp2_with fail
  refine (take_any w1 p 1 4 1 4 h hk (by omega) (by omega)).mono ?_
  rintro e w2 ⟨rfl, h2, hg⟩
  have hv2 := var_gby hv hg hx
  have hb2 := hb0.gp hg hwp
  clear h hv hb0 hg
  go_wp2_with fail
  refine (take_any w2 p 1 4 1 0 h2 hk (by omega) (by omega)).mono ?_
  rintro e w3 ⟨rfl, h3, hg⟩
  have hv3 := var_gby hv2 hg hx
  have hb3 := hb2.gp hg hwp
  clear h2 hv2 hb2 hg
  go_wp2_with fail
  refine (fresh_any w3 p 1 4 1 0 h3 hk (by omega) (by omega)).mono ?_
  rintro e w4 ⟨rfl, h4, hg⟩
  have hv4 := var_gby hv3 hg hx
  have hb4 := hb3.gp hg hwp
  clear h3 hv3 hb3 hg
  go_wp2_with fail
  refine (fresh_any w4 p 1 4 1 1 h4 hk (by omega) (by omega)).mono ?_
  rintro e w5 ⟨rfl, h5, hg⟩
  have hv5 := var_gby hv4 hg hx
  have hb5 := hb4.gp hg hwp
  clear h4 hv4 hb4 hg
  go_wp2_with fail
  refine (fresh_any w5 p 1 4 1 2 h5 hk (by omega) (by omega)).mono ?_
  rintro e w6 ⟨rfl, h6, hg⟩
  have hv6 := var_gby hv5 hg hx
  have hb6 := hb5.gp hg hwp
  clear h5 hv5 hb5 hg
  go_wp2_with fail
  refine (take_any w6 p 1 4 1 3 h6 hk (by omega) (by omega)).mono ?_
  rintro e w7 ⟨rfl, h7, hg⟩
  have hv7 := var_gby hv6 hg hx
  have hb7 := hb6.gp hg hwp
  clear h6 hv6 hb6 hg
  go_wp2_with fail
  refine (fresh_any w7 p 1 4 1 3 h7 hk (by omega) (by omega)).mono ?_
  rintro e w8 ⟨rfl, h8, hg⟩
  have hv8 := var_gby hv7 hg hx
  have hb8 := hb7.gp hg hwp
  clear h7 hv7 hb7 hg
  go_wp2_with fail
  refine (take_any w8 p 1 4 1 4 h8 hk (by omega) (by omega)).mono ?_
  rintro e w9 ⟨rfl, h9, hg⟩
  obtain ⟨d0, d1, d2⟩ := var_cells (var_gby hv8 hg hx)
  have hb9 := hb8.gp hg hwp
  clear h8 hv8 hb8 hg h9
  go_wp2_with fail
  refine (most_any 1 4 1 8 w9 hk (by omega) (by omega)).mono ?_
  rintro e w10 ⟨rfl, hb10⟩
  go_wp2_with fail
  go_ret
  exact ⟨rfl, hb9.tr hb10⟩
end Go.Proofs.Ytionbanfknphoaa.token
