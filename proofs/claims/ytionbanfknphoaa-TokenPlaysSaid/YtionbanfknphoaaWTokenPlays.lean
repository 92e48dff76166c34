/-
  TokenPlays is true for every input: what is taken, and what is left, is the document's, behind whatever is done. No condition.
-/
import Derived.Test.YtionbanfknphoaaTokD
namespace Go.Proofs.Ytionbanfknphoaa.tokenPlays
open Go.ChangeShapes Go.WideShapes Go.ChangeAt Go.RowKit
open Go.Proofs.Ytionbanfknphoaa.token
set_option linter.unusedVariables false
set_option linter.unusedSimpArgs false

set_option maxHeartbeats 4000000 in
theorem walk {w : World} (n : Int) (n0 : -9223372036854775808 ≤ n) (n1 : n ≤ 9223372036854775807) (v : Value) (z : List Bool) (hv : Rd w v z.length z.length (fun i => .bool (z.getD i false))) (hm : z.length ≤ maxLen) :
    Calls Try.prog 4 #[.int .i64 n, v] w fun e w' => e = .returned (.bool true) ∧ Bl w w' := by
  obtain ⟨a, cap, rfl, R⟩ := rd_any hv
  obtain ⟨K, hK⟩ : ∃ K, z.length = K := ⟨_, rfl⟩
  rw [hK] at R hm ⊢
  unfold maxLen at hm
  replace R := Lib.hid R
  clear hv hK
  have Bu := Lib.hid (fun w => budget_any n w n0 n1)
  go_enter Try.func4, Try.ntmps4
  go_wp2_with fail
  refine (Bu.out _).mono ?_
  rintro e w1 ⟨P, O, B, rfl, hk, hb1⟩
  go_wp2_with fail
  refine (new_any P O B _ hk).mono ?_
  rintro e w2 ⟨p, rfl, hp, ht, hb2⟩
  have hv2 := var_bl (heap_alloc_new w1 (.cells #[I P, I O, I B] 23)) hb2
  obtain ⟨x, hx⟩ : ∃ x, w1.heap.size = x := ⟨_, rfl⟩
  have hxp : x < p := by simp at hp; omega
  have hb0 : Bl w w2 := hb1.tr (((Bl.rfl' w1).al _).tr hb2)
  have hwp : w.heap.size ≤ p := by have := hb1.size; omega
  rw [hx] at hv2
  clear hb2 hp hb1
  have hk' := hk
  obtain ⟨P0, P1, O0, O1, B0, B1⟩ := hk'
  have hmb := mul_bd B0 B1 (by omega) O1
  obtain ⟨M, hM⟩ : ∃ M, B * O = M := ⟨_, rfl⟩
  rw [hM] at hmb ht
  replace hk := Lib.hid hk
  have hwm : IntKind.i64.wrap (B * O) = M := by rw [hM, IntKind.wrap_i64]; omega
  replace hM := Lib.hid hM
  obtain ⟨d0, d1, d2⟩ := var_cells' hv2
  go_wp2_with fail
  clear d0 d1 d2
  go_loopw [7, 8] (fun c i wr => ∃ (k : Nat) (m : Int), k ≤ K ∧ k ≤ 60 ∧ i = I k ∧ c = I m ∧ 0 ≤ m ∧ m ≤ M ∧ wr.heap[x]? = some (.cells #[I P, I O, I B] 23 (0, 0)) ∧ TB wr p P O B m ∧ Bl w wr) (fun _ i _ => K - (intOf i).toNat)
  case atStart => exact ⟨0, M, by omega, by omega, rfl, rfl, by omega, by omega, hv2, ht, hb0⟩
  case round =>
    obtain ⟨k, m, hkK, hk1, rfl, rfl, m0, m1, hvr, htr, hbr⟩ := hrel
    clear hv2 ht hb0
    have L4 := fun w' (hb : Bl wr w') => left_any w' p P O B m (htr.bl hb) hk.out m0 (by omega)
    have htd : m.tdiv O = m / O := Int.tdiv_eq_ediv_of_nonneg m0
    have q1 : 0 ≤ m / O ∧ m / O ≤ 10000 := ⟨Int.ediv_nonneg m0 (by omega), by have h2 := Int.ediv_le_self O m0; omega⟩
    obtain ⟨lo, hlo⟩ : ∃ t, m / O = t := ⟨_, rfl⟩
    rw [hlo] at L4 htd q1
    have hwt : IntKind.i64.wrap (m.tdiv O) = lo := by rw [htd, IntKind.wrap_i64]; omega
    replace L4 := Lib.hid L4
    have hdO : ¬ O = 0 := by omega
    have hbn : (lo != IntKind.i64.wrap lo) = false := by rw [show IntKind.i64.wrap lo = lo by rw [IntKind.wrap_i64]; omega]; simp
    have hbq : (lo == IntKind.i64.wrap lo) = true := by rw [show IntKind.i64.wrap lo = lo by rw [IntKind.wrap_i64]; omega]; simp
    by_cases hlt : k < K ∧ k < 60
    · obtain ⟨hlt, hlt2⟩ := hlt
      obtain ⟨b, off, rfl, _⟩ := R.out wr hbr k hlt
      go_wp2_with fail
      have KK := Lib.hid (fun w' (hb : Bl wr w') => (⟨hb, var_cells' (var_bl hvr hb)⟩ : Bl wr w' ∧ w'.cell? ⟨x, 0, none⟩ = some (I P) ∧ w'.cell? ⟨x, 1, none⟩ = some (I O) ∧ w'.cell? ⟨x, 2, none⟩ = some (I B)))
      obtain ⟨d0, d1, d2⟩ := (KK.out wr (Bl.rfl' _)).2
      go_region_held3 (fun w' => Bl wr w' ∧ w'.cell? ⟨x, 0, none⟩ = some (I P) ∧ w'.cell? ⟨x, 1, none⟩ = some (I O) ∧ w'.cell? ⟨x, 2, none⟩ = some (I B))
        ((go_split_ands; exact KK.out _ (by first | assumption | exact Bl.rfl' _ | exact Bl.drewN _ _ | exact Bl.dr (by first | assumption | exact Bl.rfl' _) | exact Bl.tr (by assumption) (by assumption))))
        (first
          | (go_at_call 18; go_split_ands; refine (L4.out _ (by assumption)).mono ?_; rintro e w5 ⟨rfl, hb7⟩))
      all_goals
        go_split_ands
        have hb6 : Bl wr w5 := by assumption
        have hv6 := var_bl hvr hb6
        have ht6 := htr.bl hb6
        have hl6 := hbr.tr hb6
        clear d0 d1 d2 hvr htr KK L4
        obtain ⟨b', off', hbe, hce⟩ := R.out w5 hl6 k hlt
        cases hbe
        clear hbr hb6
        cases hz : z.getD k false with
        | true =>
          rw [hz] at hce
          clear hz
          have F := Lib.hid (fresh_any w5 p P O B m ht6 hk.out m0 (by omega))
          have F2 := fun w' => rfresh_any w' P O B m hk.out m0 (by omega)
          rw [hM.out] at F2
          replace F2 := Lib.hid F2
          go_wp2_with fail
          refine F.out.mono ?_
          rintro e w6 ⟨rfl, ht7, hg⟩
          have hv7 := var_gby hv6 hg hxp
          have hb7 := hl6.gp hg hwp
          rw [hM.out] at ht7
          obtain ⟨d0, d1, d2⟩ := var_cells' hv7
          clear hv6 ht6 hl6 hce hg F
          go_wp2_with fail
          refine (F2.out _).mono ?_
          rintro e w7 ⟨rfl, hb8⟩
          clear d0 d1 d2
          go_wp2_with fail
          go_roundw
          case rel => exact ⟨k + 1, _, by omega, by omega, by go_num, rfl, by omega, by omega, var_bl hv7 hb8, ht7.bl hb8, hb7.tr hb8⟩
          case measure => simp [intOf]; omega
        | false =>
          rw [hz] at hce
          clear hz
          have F2 := Lib.hid (fun w' => rtake_any w' P O B m hk.out m0 (by omega))
          have F := Lib.hid (fun w' (hb : Bl w5 w') => take_any w' p P O B m (ht6.bl hb) hk.out m0 (by omega))
          obtain ⟨tb0, tb1⟩ := tk_bd O0 m0
          obtain ⟨m', hm'⟩ : ∃ t, tk O m = t := ⟨_, rfl⟩
          obtain ⟨is, his⟩ : ∃ t, decide (O ≤ m) = t := ⟨_, rfl⟩
          rw [hm'] at F F2 tb0 tb1
          rw [his] at F F2
          clear hm' his
          obtain ⟨d0, d1, d2⟩ := var_cells' hv6
          go_wp2_with fail
          refine (F2.out _).mono ?_
          rintro e w6 ⟨rfl, hb8⟩
          clear d0 d1 d2 hce
          go_wp2_with fail
          refine (F.out _ hb8).mono ?_
          rintro e w7 ⟨rfl, ht7, hg⟩
          have hv7 := var_gby (var_bl hv6 hb8) hg hxp
          have hb7 := (hl6.tr hb8).gp hg hwp
          clear hv6 ht6 hl6 hg F F2 hb8
          have hii : (is != is) = false := by simp
          go_wp2_with fail
          go_roundw
          case rel => exact ⟨k + 1, m', by omega, by omega, by go_num, rfl, by omega, by omega, hv7, ht7, hb7⟩
          case measure => simp [intOf]; omega
    · by_cases h1 : k < K
      · obtain rfl : k = 60 := by omega
        go_wp2_with fail
        have KK := Lib.hid (fun w' (hb : Bl wr w') => (⟨hb, var_cells' (var_bl hvr hb)⟩ : Bl wr w' ∧ w'.cell? ⟨x, 0, none⟩ = some (I P) ∧ w'.cell? ⟨x, 1, none⟩ = some (I O) ∧ w'.cell? ⟨x, 2, none⟩ = some (I B)))
        obtain ⟨d0, d1, d2⟩ := (KK.out wr (Bl.rfl' _)).2
        go_region_held3 (fun w' => Bl wr w' ∧ w'.cell? ⟨x, 0, none⟩ = some (I P) ∧ w'.cell? ⟨x, 1, none⟩ = some (I O) ∧ w'.cell? ⟨x, 2, none⟩ = some (I B))
          ((go_split_ands; exact KK.out _ (by first | assumption | exact Bl.rfl' _ | exact Bl.drewN _ _ | exact Bl.dr (by first | assumption | exact Bl.rfl' _) | exact Bl.tr (by assumption) (by assumption))))
          (first
            | (go_at_call 18; go_split_ands; refine (L4.out _ (by assumption)).mono ?_; rintro e w5 ⟨rfl, hb7⟩)
            | (go_at_call 16; go_split_ands; refine (lives19 _).mono ?_; rintro e w6 ⟨rfl, hb7⟩))
        all_goals
          go_split_ands
          have hb6 : Bl wr w6 := by assumption
          go_wp2_with fail
          go_ret
          exact ⟨rfl, hbr.tr hb6⟩
      · obtain rfl : k = K := by omega
        go_wp2_with fail
        have KK := Lib.hid (fun w' (hb : Bl wr w') => (⟨hb, var_cells' (var_bl hvr hb)⟩ : Bl wr w' ∧ w'.cell? ⟨x, 0, none⟩ = some (I P) ∧ w'.cell? ⟨x, 1, none⟩ = some (I O) ∧ w'.cell? ⟨x, 2, none⟩ = some (I B)))
        obtain ⟨d0, d1, d2⟩ := (KK.out wr (Bl.rfl' _)).2
        go_region_held3 (fun w' => Bl wr w' ∧ w'.cell? ⟨x, 0, none⟩ = some (I P) ∧ w'.cell? ⟨x, 1, none⟩ = some (I O) ∧ w'.cell? ⟨x, 2, none⟩ = some (I B))
          ((go_split_ands; exact KK.out _ (by first | assumption | exact Bl.rfl' _ | exact Bl.drewN _ _ | exact Bl.dr (by first | assumption | exact Bl.rfl' _) | exact Bl.tr (by assumption) (by assumption))))
          (first
            | (go_at_call 18; go_split_ands; refine (L4.out _ (by assumption)).mono ?_; rintro e w5 ⟨rfl, hb7⟩)
            | (go_at_call 16; go_split_ands; refine (lives19 _).mono ?_; rintro e w6 ⟨rfl, hb7⟩))
        all_goals
          go_split_ands
          have hb6 : Bl wr w6 := by assumption
          go_wp2_with fail
          go_ret
          exact ⟨rfl, hbr.tr hb6⟩
end Go.Proofs.Ytionbanfknphoaa.tokenPlays
