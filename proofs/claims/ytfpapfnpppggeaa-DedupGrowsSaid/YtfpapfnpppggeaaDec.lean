/-
  The document's Decimal, of numbers from 0 to 99.
-/
import Derived.Test.YtfpapfnpppggeaaKit2
namespace Go.Proofs.Ytfpapfnpppggeaa
open Go.ChangeShapes Go.WideShapes Go.ChangeAt
set_option linter.unusedVariables false
set_option linter.unusedSimpArgs false

set_option maxHeartbeats 1000000 in
theorem dec1 (i : Int) (w : World) (h0 : 0 ≤ i) (h1 : i ≤ 9) : Calls Try.prog 22 #[I i] w fun e w' => e = .returned (.string (strOfNums [48 + i])) ∧ Bl w w' := by
  have hcv : ∀ w : World, (convert 54 9 (.slice (some ⟨w.heap.size, 0, none⟩) 1 1)).run Try.prog (w.alloc (.cells #[.int .u8 (48 + i)] 5)) = .ok (.string (strOfNums [48 + i])) (w.alloc (.cells #[.int .u8 (48 + i)] 5)) := fun w =>
    run_convert_bytes_arg _ 54 5 Try.underlying54 Try.underlying5 w.heap.size 0 1 1 [48 + i] rfl (fun j hj => by
      match j, hj with
      | 0, _ => simp) 9 Try.underlying9
  have ht : i.tmod 10 = i := by rw [Int.tmod_eq_emod_of_nonneg h0]; omega
  have hw : IntKind.i64.wrap (i.tmod 10) = i := by rw [ht, IntKind.wrap_i64]; omega
  have hw2 : IntKind.i64.wrap (48 + i) = 48 + i := by rw [IntKind.wrap_i64]; omega
  have hu : IntKind.u8.wrap (48 + i) = 48 + i := by rw [IntKind.wrap_u8]; omega
  go_enter Try.func22, Try.ntmps22
  go_wp2_with fail
  go_ret
  exact ⟨rfl, (Bl.rfl' w).al _⟩
theorem one_size (c : Int) : (strOfNums [c]).size = 1 := by rfl
set_option maxHeartbeats 1000000 in
theorem dec2 (i : Int) (w : World) (h0 : 10 ≤ i) (h1 : i ≤ 99) : Calls Try.prog 22 #[I i] w fun e w' => e = .returned (.string (strOfNums [48 + i / 10] ++ strOfNums [48 + i % 10])) ∧ Bl w w' := by
  have D1 := Lib.hid (fun w' => dec1 (i / 10) w' (by omega) (by omega))
  have hadd := fun w => run_string_add_sum (P := Try.prog) w (strOfNums [48 + i / 10]) (strOfNums [48 + i % 10]) (by rw [one_size, one_size]; omega)
  have ht : i.tmod 10 = i % 10 := Int.tmod_eq_emod_of_nonneg (by omega)
  have hd : i.tdiv 10 = i / 10 := Int.tdiv_eq_ediv_of_nonneg (by omega)
  have e0 : 0 ≤ i % 10 := by omega
  have e1 : i % 10 ≤ 9 := by omega
  have d0 : 1 ≤ i / 10 := by omega
  have d1 : i / 10 ≤ 9 := by omega
  obtain ⟨q, hq⟩ : ∃ z_, (i / 10) = z_ := ⟨_, rfl⟩
  rw [hq] at D1 hd d0 d1
  simp only [hq] at hadd
  obtain ⟨r, hr⟩ : ∃ z_, (i % 10) = z_ := ⟨_, rfl⟩
  rw [hr] at ht e0 e1
  simp only [hr] at hadd
  rw [hq, hr]
  have hcv : ∀ w : World, (convert 54 9 (.slice (some ⟨w.heap.size, 0, none⟩) 1 1)).run Try.prog (w.alloc (.cells #[.int .u8 (48 + r)] 5)) = .ok (.string (strOfNums [48 + r])) (w.alloc (.cells #[.int .u8 (48 + r)] 5)) := fun w =>
    run_convert_bytes_arg _ 54 5 Try.underlying54 Try.underlying5 w.heap.size 0 1 1 [48 + r] rfl (fun j hj => by
      match j, hj with
      | 0, _ => simp) 9 Try.underlying9
  have hw : IntKind.i64.wrap (i.tmod 10) = r := by rw [ht, IntKind.wrap_i64]; omega
  have hwd : IntKind.i64.wrap (i.tdiv 10) = q := by rw [hd, IntKind.wrap_i64]; omega
  have hw2 : IntKind.i64.wrap (48 + r) = 48 + r := by rw [IntKind.wrap_i64]; omega
  have hu : IntKind.u8.wrap (48 + r) = 48 + r := by rw [IntKind.wrap_u8]; omega
  clear hq hr
  go_enter Try.func22, Try.ntmps22
  go_wp2_with fail
  with_reducible refine (D1.out _).mono ?_
  rintro e w2 ⟨rfl, hb2⟩
  replace hb2 := Lib.hid hb2
  go_wp2_with fail
  go_ret
  exact ⟨rfl, ((Bl.rfl' w).al _).tr hb2.out⟩
/-- The document's decimal of a number from 0 to 99. -/
def decB (i : Int) : ByteArray := if i ≤ 9 then strOfNums [48 + i] else strOfNums [48 + i / 10] ++ strOfNums [48 + i % 10]
theorem dec_any (i : Int) (w : World) (h0 : 0 ≤ i) (h1 : i ≤ 99) : Calls Try.prog 22 #[I i] w fun e w' => e = .returned (.string (decB i)) ∧ Bl w w' := by
  unfold decB
  split
  · exact dec1 i w h0 (by assumption)
  · exact dec2 i w (by omega) h1
end Go.Proofs.Ytfpapfnpppggeaa
