/-
  HeadsEdges is true for every input: how long a name, and a value, may be, which bytes they may have, and how many heads there may be, is told as the document says. No condition.
-/
import Derived.Test.YtcbpagbalagllaaDoorHdM
import Derived.Test.YtcbpagbalagllaaDoorHdI
import Derived.Test.YtcbpagbalagllaaDoorHdH
namespace Go.Proofs.YtcbpagbalagllaaDoor.headsEdges
open Go.ChangeShapes Go.WideShapes Go.ChangeAt Go.RowKit
open Go.Proofs.YtcbpagbalagllaaDoor.heads
set_option linter.unusedVariables false
set_option linter.unusedSimpArgs false

theorem head_part {w : World} {g cap : Nat} {L : List Hd} (h : RowB hB 2 w g 0 (some ⟨g, 0, none⟩) L) (k : Nat) (hk : k < L.length) (hc : 1 ≤ cap) (hm : cap ≤ 9223372036854775807) : HeadsAt w (.slice (some ⟨g, k * 2, none⟩) 1 cap) [L.getD k h0] := by
  refine ⟨_, g, k * 2, cap, rfl, hc, ⟨hm, by simp⟩, fun _ => ?_⟩
  obtain ⟨-, cur, T, h2, h3⟩ := h (by omega)
  refine ⟨rfl, cur, T, h2, fun j hj => ?_⟩
  have hj2 : j < 2 := by simpa using hj
  have e := h3 (k * 2 + j) (by omega)
  rw [Nat.zero_add] at e
  rw [e, flatB_get hB_len h0 j hj2 L k hk]
  simp [flatB]
theorem fit_one {x : Hd} (h : x.n.size ≤ 1000000 ∧ x.v.size ≤ 1000000) : Fit [x] := fun y hy => by
  have : y = x := by simpa using hy
  rw [this]; exact h

set_option maxRecDepth 20000 in
set_option maxHeartbeats 8000000 in
theorem walk {w : World} (c : Int) (c0 : 0 ≤ c) (c1 : c ≤ 255) (a1 : Int) (l1 : -9223372036854775808 ≤ a1) (u1 : a1 ≤ 9223372036854775807) (a2 : Int) (l2 : -9223372036854775808 ≤ a2) (u2 : a2 ≤ 9223372036854775807) (a3 : Int) (l3 : -9223372036854775808 ≤ a3) (u3 : a3 ≤ 9223372036854775807) :
    Calls Tryd.prog 4 #[.int .u8 c, I a1, I a2, I a3] w fun e w' => e = .returned (.bool true) ∧ Bl w w' := by
  obtain ⟨iu, hiu, zu0, zu1, zu2⟩ := info_parts infoH
  have LV := Lib.hid lives_any
  have A1 := Lib.hid (fun w => around_any a1 23 w l1 u1 (by omega) (by omega))
  have A2 := Lib.hid (fun w => around_any a2 6 w l2 u2 (by omega) (by omega))
  have A3 := Lib.hid (fun w => around_any a3 5 w l3 u3 (by omega) (by omega))
  have p0 := around_lo a1 23 (by omega); have p1 := around_hi a1 23 (by omega)
  have q0 := around_lo a2 6 (by omega); have q1 := around_hi a2 6 (by omega)
  have r0 := around_lo a3 5 (by omega); have r1 := around_hi a3 5 (by omega)
  obtain ⟨x, hx⟩ : ∃ z_, (around a1 23) = z_ := ⟨_, rfl⟩
  rw [hx] at A1 p0 p1
  obtain ⟨y, hy⟩ : ∃ z_, (around a2 6) = z_ := ⟨_, rfl⟩
  rw [hy] at A2 q0 q1
  obtain ⟨z, hz⟩ : ∃ z_, (around a3 5) = z_ := ⟨_, rfl⟩
  rw [hz] at A3 r0 r1
  obtain ⟨X, rfl⟩ : ∃ X : Nat, x = X := ⟨x.toNat, by omega⟩
  obtain ⟨Y, hY⟩ : ∃ Y : Nat, 58 + y = Y := ⟨(58 + y).toNat, by omega⟩
  obtain ⟨Z, hZ⟩ : ∃ Z : Nat, 6 + z = Z := ⟨(6 + z).toNat, by omega⟩
  have wY : IntKind.i64.wrap (58 + y) = (Y : Int) := by rw [IntKind.wrap_i64]; omega
  have wZ : IntKind.i64.wrap (6 + z) = (Z : Int) := by rw [IntKind.wrap_i64]; omega
  have hX22 : X ≤ 22 := by omega
  have hY63 : Y ≤ 63 := by omega
  have hZ10 : Z ≤ 10 := by omega
  clear hx hy hz hY hZ l1 u1 l2 u2 l3 u3
  go_enter Tryd.func4, Tryd.ntmps4
  go_wp2_with fail
  with_reducible refine (A1.out _).mono ?_
  rintro e w' ⟨rfl, rfl⟩
  clear A1
  go_wp2_with fail
  go_loopw [9, 10] (fun s i wr => ∃ (nm : ByteArray) (k : Nat), s = S nm ∧ i = I k ∧ nm.size + k ≤ 22 ∧ wr = w) (fun _ i _ => (intOf i).toNat)
  case atStart => exact ⟨⟨#[]⟩, X, rfl, rfl, by show 0 + X ≤ 22; omega, rfl⟩
  case round =>
    obtain ⟨nm, k, rfl, rfl, hsz, rfl⟩ := hrel
    by_cases hk : 0 < k
    · have d1 : decide ((k : Int) > 0) = true := decide_eq_true (by omega)
      have d2 : decide (0 < k) = true := decide_eq_true hk
      have wk : IntKind.i64.wrap ((k : Int) - 1) = ((k - 1 : Nat) : Int) := by rw [IntKind.wrap_i64]; omega
      have s1 : (nm ++ (⟨#[97]⟩ : ByteArray)).size = nm.size + 1 := by rw [ByteArray.size_append]; rfl
      have aa : ∀ w, (Op.stringOp .add nm ⟨#[97]⟩).run Tryd.prog w = .ok (.string (nm ++ ⟨#[97]⟩)) w := fun w => run_string_add_sum w nm ⟨#[97]⟩ (by have : (⟨#[97]⟩ : ByteArray).size = 1 := rfl; omega)
      obtain ⟨p, hp⟩ : ∃ z_, (nm ++ (⟨#[97]⟩ : ByteArray)) = z_ := ⟨_, rfl⟩
      rw [hp] at s1
      simp only [hp] at aa
      clear hp
      go_wp2_with fail
      go_roundw
      case rel => exact ⟨p, k - 1, rfl, by first | rfl | go_num | (congr 1; omega), by omega, by first | rfl | trivial⟩
      case measure => simp [intOf] <;> omega
    · obtain rfl : k = 0 := by omega
      rw [show ((0 : Nat) : Int) = 0 from rfl]
      go_wp2_with fail
      with_reducible refine (A2.out _).mono ?_
      rintro e w' ⟨rfl, rfl⟩
      clear A2
      go_wp2_with fail
      go_loopw [11, 12] (fun s i wq => ∃ (vl : ByteArray) (k : Nat), s = S vl ∧ i = I k ∧ vl.size + k ≤ 63 ∧ wq = wr) (fun _ i _ => (intOf i).toNat)
      case atStart => exact ⟨⟨#[]⟩, Y, rfl, rfl, by show 0 + Y ≤ 63; omega, rfl⟩
      case round =>
        obtain ⟨vl, k, rfl, rfl, hsv, rfl⟩ := hrel
        by_cases hk : 0 < k
        · have d1 : decide ((k : Int) > 0) = true := decide_eq_true (by omega)
          have d2 : decide (0 < k) = true := decide_eq_true hk
          have wk : IntKind.i64.wrap ((k : Int) - 1) = ((k - 1 : Nat) : Int) := by rw [IntKind.wrap_i64]; omega
          have s1 : (vl ++ (⟨#[118]⟩ : ByteArray)).size = vl.size + 1 := by rw [ByteArray.size_append]; rfl
          have aa : ∀ w, (Op.stringOp .add vl ⟨#[118]⟩).run Tryd.prog w = .ok (.string (vl ++ ⟨#[118]⟩)) w := fun w => run_string_add_sum w vl ⟨#[118]⟩ (by have : (⟨#[118]⟩ : ByteArray).size = 1 := rfl; omega)
          obtain ⟨p, hp⟩ : ∃ z_, (vl ++ (⟨#[118]⟩ : ByteArray)) = z_ := ⟨_, rfl⟩
          rw [hp] at s1
          simp only [hp] at aa
          clear hp
          go_wp2_with fail
          go_roundw
          case rel => exact ⟨p, k - 1, rfl, by first | rfl | go_num | (congr 1; omega), by omega, by first | rfl | trivial⟩
          case measure => simp [intOf] <;> omega
        · obtain rfl : k = 0 := by omega
          rw [show ((0 : Nat) : Int) = 0 from rfl]
          have hcv : (convert 33 9 (.slice (some ⟨wr.heap.size, 0, none⟩) 1 1)).run Tryd.prog (wr.alloc (.cells #[.int .u8 c] 5)) = .ok (.string (strOfNums [c])) (wr.alloc (.cells #[.int .u8 c] 5)) :=
            run_convert_bytes_arg _ 33 5 Tryd.underlying33 Tryd.underlying5 wr.heap.size 0 1 1 [c] rfl (fun j hj => by
              match j, hj with
              | 0, _ => simp) 9 Tryd.underlying9
          have so : (strOfNums [c]).size = 1 := by rfl
          obtain ⟨od, hod⟩ : ∃ z_, (strOfNums [c]) = z_ := ⟨_, rfl⟩
          rw [hod] at hcv so
          have s1 : ((⟨#[97]⟩ : ByteArray) ++ od).size = 2 := by rw [ByteArray.size_append, so]; rfl
          have s2 : ((⟨#[32]⟩ : ByteArray) ++ od).size = 2 := by rw [ByteArray.size_append, so]; rfl
          have b1' : ∀ w, (Op.stringOp .add ⟨#[97]⟩ od).run Tryd.prog w = .ok (.string (⟨#[97]⟩ ++ od)) w := fun w => run_string_add_sum w ⟨#[97]⟩ od (by have : (⟨#[97]⟩ : ByteArray).size = 1 := rfl; omega)
          have b2' : ∀ w, (Op.stringOp .add ⟨#[32]⟩ od).run Tryd.prog w = .ok (.string (⟨#[32]⟩ ++ od)) w := fun w => run_string_add_sum w ⟨#[32]⟩ od (by have : (⟨#[32]⟩ : ByteArray).size = 1 := rfl; omega)
          obtain ⟨o1, ho1⟩ : ∃ z_, ((⟨#[97]⟩ : ByteArray) ++ od) = z_ := ⟨_, rfl⟩
          rw [ho1] at s1
          simp only [ho1] at b1'
          obtain ⟨o2, ho2⟩ : ∃ z_, ((⟨#[32]⟩ : ByteArray) ++ od) = z_ := ⟨_, rfl⟩
          rw [ho2] at s2
          simp only [ho2] at b2'
          clear hod ho1 ho2
          go_wp2_with fail
          have hRL := (fun _ => ⟨rfl, _, _, heap_alloc_new (wr.alloc (.cells #[.int .u8 c] 5)) (.cells #[S nm, S ⟨#[49]⟩, S ⟨#[97]⟩, S vl, S o1, S ⟨#[]⟩, S ⟨#[98]⟩, S o2] 25), fun j hj => by
            have hj8 : j < 8 := hj
            rw [Nat.zero_add]
            match j, hj8 with
            | 0, _ | 1, _ | 2, _ | 3, _ | 4, _ | 5, _ | 6, _ | 7, _ => rfl⟩ : RowB hB 2 ((wr.alloc (.cells #[.int .u8 c] 5)).alloc (.cells #[S nm, S ⟨#[49]⟩, S ⟨#[97]⟩, S vl, S o1, S ⟨#[]⟩, S ⟨#[98]⟩, S o2] 25)) (wr.alloc (.cells #[.int .u8 c] 5)).heap.size 0 (some ⟨(wr.alloc (.cells #[.int .u8 c] 5)).heap.size, 0, none⟩) [⟨nm, ⟨#[49]⟩⟩, ⟨⟨#[97]⟩, vl⟩, ⟨o1, ⟨#[]⟩⟩, ⟨⟨#[98]⟩, o2⟩])
          have hbW := ((Bl.rfl' wr).al (.cells #[.int .u8 c] 5)).al (.cells #[S nm, S ⟨#[49]⟩, S ⟨#[97]⟩, S vl, S o1, S ⟨#[]⟩, S ⟨#[98]⟩, S o2] 25)
          have hsz1 : (wr.alloc (.cells #[.int .u8 c] 5)).heap.size = wr.heap.size + 1 := by simp
          rw [hsz1] at hRL
          obtain ⟨g, hg⟩ : ∃ g, wr.heap.size + 1 = g := ⟨_, rfl⟩
          rw [hg] at hRL ⊢
          obtain ⟨W2, hW2⟩ : ∃ X, (wr.alloc (.cells #[.int .u8 c] 5)).alloc (.cells #[S nm, S ⟨#[49]⟩, S ⟨#[97]⟩, S vl, S o1, S ⟨#[]⟩, S ⟨#[98]⟩, S o2] 25) = X := ⟨_, rfl⟩
          have hW2' : (wr.alloc (.cells #[.int .u8 c] 5)).alloc (.cells #[S nm, .string ⟨#[49]⟩, .string ⟨#[97]⟩, S vl, .string o1, .string ⟨#[]⟩, .string ⟨#[98]⟩, .string o2] 25) = W2 := hW2
          rw [hW2']
          rw [hW2] at hRL hbW
          obtain ⟨L, hL⟩ : ∃ L : List Hd, [⟨nm, ⟨#[49]⟩⟩, ⟨⟨#[97]⟩, vl⟩, ⟨o1, ⟨#[]⟩⟩, ⟨⟨#[98]⟩, o2⟩] = L := ⟨_, rfl⟩
          have hL4 : L.length = 4 := by rw [← hL]; rfl
          have hLf : ∀ k, k < 4 → (L.getD k h0).n.size ≤ 1000000 ∧ (L.getD k h0).v.size ≤ 1000000 := fun k hk => by
            have t1 : (⟨#[97]⟩ : ByteArray).size = 1 := rfl
            have t2 : (⟨#[98]⟩ : ByteArray).size = 1 := rfl
            have t3 : (⟨#[49]⟩ : ByteArray).size = 1 := rfl
            have t4 : (⟨#[]⟩ : ByteArray).size = 0 := rfl
            rw [← hL]
            match k, hk with
            | 0, _ => show nm.size ≤ 1000000 ∧ (⟨#[49]⟩ : ByteArray).size ≤ 1000000; omega
            | 1, _ => show (⟨#[97]⟩ : ByteArray).size ≤ 1000000 ∧ vl.size ≤ 1000000; omega
            | 2, _ => show o1.size ≤ 1000000 ∧ (⟨#[]⟩ : ByteArray).size ≤ 1000000; omega
            | 3, _ => show (⟨#[98]⟩ : ByteArray).size ≤ 1000000 ∧ o2.size ≤ 1000000; omega
          rw [hL] at hRL
          have CH := Lib.hid (fun k (hk : k < 4) c (h1 : 1 ≤ c) (hm : c ≤ 9223372036854775807) X (hb : Bl W2 X) => check_any _ [L.getD k h0] X (head_part (RowB.bl hRL hb) k (by omega) h1 hm) (by simp) (fit_one (hLf k hk)))
          have CR := Lib.hid (fun k (hk : k < 4) c (h1 : 1 ≤ c) (hm : c ≤ 9223372036854775807) X (hb : Bl W2 X) => rcheck_any _ [L.getD k h0] X (head_part (RowB.bl hRL hb) k (by omega) h1 hm) (by simp) (fit_one (hLf k hk)))
          have DM := Lib.hid (fun k w (hk : k < 100) => decS_any 1 k w (by omega) (by omega))
          clear hW2 hW2' hL hLf hg hsz1 hcv b1' b2'
          replace hbW := Lib.hid hbW
          replace hRL := Lib.hid hRL
          go_loopw [15] (fun i wr => ∃ k : Nat, k ≤ 4 ∧ i = I k ∧ Bl W2 wr) (fun i _ => 4 - (intOf i).toNat)
          case atStart => exact ⟨0, by omega, rfl, Bl.rfl' _⟩
          case round =>
            obtain ⟨k, hk, rfl, hbr⟩ := hrel
            have hc : k = 0 ∨ k = 1 ∨ k = 2 ∨ k = 3 ∨ k = 4 := by omega
            rcases hc with rfl | rfl | rfl | rfl | rfl
            · have C1 : Calls Tryd.prog 15 #[.slice (some ⟨g, 0, none⟩) 1 4] wr.drew fun e w' => e = .returned (E (checkF [L.getD 0 h0])) ∧ Bl wr.drew w' := CH.out 0 (by omega) 4 (by omega) (by omega) _ hbr.dr
              have C2 := Lib.hid (fun X hb => (CR.out 0 (by omega) 4 (by omega) (by omega) X hb : Calls Tryd.prog 16 #[.slice (some ⟨g, 0, none⟩) 1 4] X fun e w' => e = .returned (E (checkF [L.getD 0 h0])) ∧ Bl X w'))
              have hbD := hbr.dr
              obtain ⟨K, hK⟩ : ∃ z_, (checkF [L.getD 0 h0]) = z_ := ⟨_, rfl⟩
              rw [hK] at C1
              simp only [hK] at C2
              have hne : (K != K) = false := by simp
              have ww : IntKind.i64.wrap (0 + 1) = (0 + 1 : Int) := by rw [IntKind.wrap_i64]; omega
              have ww1 : IntKind.i64.wrap 1 = 1 := by rw [IntKind.wrap_i64]; rfl
              have ww2 : IntKind.i64.wrap 2 = 2 := by rw [IntKind.wrap_i64]; rfl
              have ww3 : IntKind.i64.wrap 3 = 3 := by rw [IntKind.wrap_i64]; rfl
              have ww4 : IntKind.i64.wrap 4 = 4 := by rw [IntKind.wrap_i64]; rfl
              clear hK hbr
              replace hbD := Lib.hid hbD
              replace C1 := Lib.hid C1
              go_wp2_with fail
              refine wp_region_held_drew (S := fun w' => True) (by kernel_rfl) ?_ (fun hHeld => ?_)
              · exact trivial
              refine wpAnyH_take (i := 0) (v := ?v0_1) rfl (by kernel_rfl) (by kernel_rfl) (by kernel_rfl) (fun _ _ _ h => h) (Or.inl ⟨by rfl, ?y0_1⟩) hHeld ?r0_1
              case y0_1 => (intro w hSw; (try dsimp only at hSw); go_split_ands; go_simp; try with_reducible rfl)
              try simp only [List.getElem_toArray, List.getElem_cons_succ, List.getElem_cons_zero, Act.put, List.setIfInBounds_toArray, List.set_cons_zero, List.set_cons_succ]
              refine wpAnyH_take (i := 1) (v := ?v1_2) rfl (by kernel_rfl) (by kernel_rfl) (by kernel_rfl) (fun _ _ _ h => h) (Or.inl ⟨by rfl, ?y1_2⟩) hHeld ?r1_2
              case y1_2 => (intro w hSw; (try dsimp only at hSw); go_split_ands; go_simp; try with_reducible rfl)
              try simp only [List.getElem_toArray, List.getElem_cons_succ, List.getElem_cons_zero, Act.put, List.setIfInBounds_toArray, List.set_cons_zero, List.set_cons_succ]
              refine wpAnyH_take (i := 2) (v := ?v2_3) rfl (by kernel_rfl) (by kernel_rfl) (by kernel_rfl) (fun _ _ _ h => h) (Or.inl ⟨by rfl, ?y2_3⟩) hHeld ?r2_3
              case y2_3 => (intro w hSw; (try dsimp only at hSw); go_split_ands; go_simp; try with_reducible rfl)
              try simp only [List.getElem_toArray, List.getElem_cons_succ, List.getElem_cons_zero, Act.put, List.setIfInBounds_toArray, List.set_cons_zero, List.set_cons_succ]
              refine wpAnyH_take (i := 3) (v := ?v3_4) rfl (by kernel_rfl) (by kernel_rfl) (by kernel_rfl) (fun _ _ _ h => h) (Or.inl ⟨by rfl, ?y3_4⟩) hHeld ?r3_4
              case y3_4 => (intro w hSw; (try dsimp only at hSw); go_split_ands; go_simp; try with_reducible rfl)
              try simp only [List.getElem_toArray, List.getElem_cons_succ, List.getElem_cons_zero, Act.put, List.setIfInBounds_toArray, List.set_cons_zero, List.set_cons_succ]
              refine wpAnyH_take (i := 4) (v := ?v4_5) rfl (by kernel_rfl) (by kernel_rfl) (by kernel_rfl) (fun _ _ _ h => h) (Or.inl ⟨by rfl, ?y4_5⟩) hHeld ?r4_5
              case y4_5 => (intro w hSw; (try dsimp only at hSw); go_split_ands; go_simp; try with_reducible rfl)
              try simp only [List.getElem_toArray, List.getElem_cons_succ, List.getElem_cons_zero, Act.put, List.setIfInBounds_toArray, List.set_cons_zero, List.set_cons_succ]
              refine wpAnyH_take (i := 6) (v := ?v6_6) rfl (by kernel_rfl) (by kernel_rfl) (by kernel_rfl) (fun _ _ _ h => h) (Or.inl ⟨by rfl, ?y6_6⟩) hHeld ?r6_6
              case y6_6 => (intro w hSw; (try dsimp only at hSw); go_split_ands; go_simp; try with_reducible rfl)
              try simp only [List.getElem_toArray, List.getElem_cons_succ, List.getElem_cons_zero, Act.put, List.setIfInBounds_toArray, List.set_cons_zero, List.set_cons_succ]
              refine wpAnyH_take (i := 7) (v := ?v7_7) rfl (by kernel_rfl) (by kernel_rfl) (by kernel_rfl) (fun _ _ _ h => h) (Or.inl ⟨by rfl, ?y7_7⟩) hHeld ?r7_7
              case y7_7 => (intro w hSw; (try dsimp only at hSw); go_split_ands; go_simp; try with_reducible rfl)
              try simp only [List.getElem_toArray, List.getElem_cons_succ, List.getElem_cons_zero, Act.put, List.setIfInBounds_toArray, List.set_cons_zero, List.set_cons_succ]
              refine wpAnyH_take (i := 8) (v := ?v8_8) rfl (by kernel_rfl) (by kernel_rfl) (by kernel_rfl) (fun _ _ _ h => h) (Or.inl ⟨by rfl, ?y8_8⟩) hHeld ?r8_8
              case y8_8 => (intro w hSw; (try dsimp only at hSw); go_split_ands; go_simp; try with_reducible rfl)
              try simp only [List.getElem_toArray, List.getElem_cons_succ, List.getElem_cons_zero, Act.put, List.setIfInBounds_toArray, List.set_cons_zero, List.set_cons_succ]
              refine wpAnyH_take (i := 9) (v := ?v9_9) rfl (by kernel_rfl) (by kernel_rfl) (by kernel_rfl) (fun _ _ _ h => h) (Or.inl ⟨by rfl, ?y9_9⟩) hHeld ?r9_9
              case y9_9 => (intro w hSw; (try dsimp only at hSw); go_split_ands; go_simp; try with_reducible rfl)
              try simp only [List.getElem_toArray, List.getElem_cons_succ, List.getElem_cons_zero, Act.put, List.setIfInBounds_toArray, List.set_cons_zero, List.set_cons_succ]
              refine wpAnyH_take (i := 10) (v := ?v10_10) rfl (by kernel_rfl) (by kernel_rfl) (by kernel_rfl) (fun _ _ _ h => h) (Or.inl ⟨by rfl, ?y10_10⟩) hHeld ?r10_10
              case y10_10 => (intro w hSw; (try dsimp only at hSw); go_split_ands; go_simp; try with_reducible rfl)
              try simp only [List.getElem_toArray, List.getElem_cons_succ, List.getElem_cons_zero, Act.put, List.setIfInBounds_toArray, List.set_cons_zero, List.set_cons_succ]
              refine wpAnyH_ready (rs := [5]) (by kernel_rfl) (by simp) ?_
              refine AllReadyH.cons rfl (fun K hK => ?_) AllReadyH.nil
              have hHeld' := hHeld
              try dsimp only at hHeld'
              go_split_ands
              go_simp
              refine (C1.out).mono ?_
              rintro e w5 ⟨rfl, hn⟩
              have hb5 := hbD.out.tr hn
              clear hn
              replace hb5 := Lib.hid hb5
              refine hK.out _ _ ?_ (fun hHeld => ?_)
              · exact trivial
              clear hK K
              try simp only [List.getElem_toArray, List.getElem_cons_succ, List.getElem_cons_zero, Act.put, List.setIfInBounds_toArray, List.set_cons_zero, List.set_cons_succ]
              refine wpAnyH_ready (rs := [11]) (by kernel_rfl) (by simp) ?_
              refine AllReadyH.cons rfl (fun K hK => ?_) AllReadyH.nil
              have hHeld' := hHeld
              try dsimp only at hHeld'
              go_split_ands
              go_simp
              refine (C2.out _ hb5.out).mono ?_
              rintro e w6 ⟨rfl, hn⟩
              have hb6 := hb5.out.tr hn
              clear hn
              replace hb6 := Lib.hid hb6
              refine hK.out _ _ ?_ (fun hHeld => ?_)
              · exact trivial
              clear hK K
              try simp only [List.getElem_toArray, List.getElem_cons_succ, List.getElem_cons_zero, Act.put, List.setIfInBounds_toArray, List.set_cons_zero, List.set_cons_succ]
              refine wpAnyH_take (i := 12) (v := ?v12_11) rfl (by kernel_rfl) (by kernel_rfl) (by kernel_rfl) (fun _ _ _ h => h) (Or.inl ⟨by rfl, ?y12_11⟩) hHeld ?r12_11
              case y12_11 => (intro w hSw; (try dsimp only at hSw); go_split_ands; go_simp; try with_reducible rfl)
              try simp only [List.getElem_toArray, List.getElem_cons_succ, List.getElem_cons_zero, Act.put, List.setIfInBounds_toArray, List.set_cons_zero, List.set_cons_succ]
              refine wpAnyH_done (by kernel_rfl) ?_ _
              go_wp2_with fail
              go_roundw
              case rel => exact ⟨0 + 1, by omega, by first | rfl | go_num, hb6.out⟩
              case measure => simp [intOf]
            · have C1 : Calls Tryd.prog 15 #[.slice (some ⟨g, 2, none⟩) 1 3] wr.drew fun e w' => e = .returned (E (checkF [L.getD 1 h0])) ∧ Bl wr.drew w' := CH.out 1 (by omega) 3 (by omega) (by omega) _ hbr.dr
              have C2 := Lib.hid (fun X hb => (CR.out 1 (by omega) 3 (by omega) (by omega) X hb : Calls Tryd.prog 16 #[.slice (some ⟨g, 2, none⟩) 1 3] X fun e w' => e = .returned (E (checkF [L.getD 1 h0])) ∧ Bl X w'))
              have hbD := hbr.dr
              obtain ⟨K, hK⟩ : ∃ z_, (checkF [L.getD 1 h0]) = z_ := ⟨_, rfl⟩
              rw [hK] at C1
              simp only [hK] at C2
              have hne : (K != K) = false := by simp
              have ww : IntKind.i64.wrap (1 + 1) = (1 + 1 : Int) := by rw [IntKind.wrap_i64]; omega
              have ww1 : IntKind.i64.wrap 1 = 1 := by rw [IntKind.wrap_i64]; rfl
              have ww2 : IntKind.i64.wrap 2 = 2 := by rw [IntKind.wrap_i64]; rfl
              have ww3 : IntKind.i64.wrap 3 = 3 := by rw [IntKind.wrap_i64]; rfl
              have ww4 : IntKind.i64.wrap 4 = 4 := by rw [IntKind.wrap_i64]; rfl
              clear hK hbr
              replace hbD := Lib.hid hbD
              replace C1 := Lib.hid C1
              go_wp2_with fail
              refine wp_region_held_drew (S := fun w' => True) (by kernel_rfl) ?_ (fun hHeld => ?_)
              · exact trivial
              refine wpAnyH_take (i := 0) (v := ?v0_12) rfl (by kernel_rfl) (by kernel_rfl) (by kernel_rfl) (fun _ _ _ h => h) (Or.inl ⟨by rfl, ?y0_12⟩) hHeld ?r0_12
              case y0_12 => (intro w hSw; (try dsimp only at hSw); go_split_ands; go_simp; try with_reducible rfl)
              try simp only [List.getElem_toArray, List.getElem_cons_succ, List.getElem_cons_zero, Act.put, List.setIfInBounds_toArray, List.set_cons_zero, List.set_cons_succ]
              refine wpAnyH_take (i := 1) (v := ?v1_13) rfl (by kernel_rfl) (by kernel_rfl) (by kernel_rfl) (fun _ _ _ h => h) (Or.inl ⟨by rfl, ?y1_13⟩) hHeld ?r1_13
              case y1_13 => (intro w hSw; (try dsimp only at hSw); go_split_ands; go_simp; try with_reducible rfl)
              try simp only [List.getElem_toArray, List.getElem_cons_succ, List.getElem_cons_zero, Act.put, List.setIfInBounds_toArray, List.set_cons_zero, List.set_cons_succ]
              refine wpAnyH_take (i := 2) (v := ?v2_14) rfl (by kernel_rfl) (by kernel_rfl) (by kernel_rfl) (fun _ _ _ h => h) (Or.inl ⟨by rfl, ?y2_14⟩) hHeld ?r2_14
              case y2_14 => (intro w hSw; (try dsimp only at hSw); go_split_ands; go_simp; try with_reducible rfl)
              try simp only [List.getElem_toArray, List.getElem_cons_succ, List.getElem_cons_zero, Act.put, List.setIfInBounds_toArray, List.set_cons_zero, List.set_cons_succ]
              refine wpAnyH_take (i := 3) (v := ?v3_15) rfl (by kernel_rfl) (by kernel_rfl) (by kernel_rfl) (fun _ _ _ h => h) (Or.inl ⟨by rfl, ?y3_15⟩) hHeld ?r3_15
              case y3_15 => (intro w hSw; (try dsimp only at hSw); go_split_ands; go_simp; try with_reducible rfl)
              try simp only [List.getElem_toArray, List.getElem_cons_succ, List.getElem_cons_zero, Act.put, List.setIfInBounds_toArray, List.set_cons_zero, List.set_cons_succ]
              refine wpAnyH_take (i := 4) (v := ?v4_16) rfl (by kernel_rfl) (by kernel_rfl) (by kernel_rfl) (fun _ _ _ h => h) (Or.inl ⟨by rfl, ?y4_16⟩) hHeld ?r4_16
              case y4_16 => (intro w hSw; (try dsimp only at hSw); go_split_ands; go_simp; try with_reducible rfl)
              try simp only [List.getElem_toArray, List.getElem_cons_succ, List.getElem_cons_zero, Act.put, List.setIfInBounds_toArray, List.set_cons_zero, List.set_cons_succ]
              refine wpAnyH_take (i := 6) (v := ?v6_17) rfl (by kernel_rfl) (by kernel_rfl) (by kernel_rfl) (fun _ _ _ h => h) (Or.inl ⟨by rfl, ?y6_17⟩) hHeld ?r6_17
              case y6_17 => (intro w hSw; (try dsimp only at hSw); go_split_ands; go_simp; try with_reducible rfl)
              try simp only [List.getElem_toArray, List.getElem_cons_succ, List.getElem_cons_zero, Act.put, List.setIfInBounds_toArray, List.set_cons_zero, List.set_cons_succ]
              refine wpAnyH_take (i := 7) (v := ?v7_18) rfl (by kernel_rfl) (by kernel_rfl) (by kernel_rfl) (fun _ _ _ h => h) (Or.inl ⟨by rfl, ?y7_18⟩) hHeld ?r7_18
              case y7_18 => (intro w hSw; (try dsimp only at hSw); go_split_ands; go_simp; try with_reducible rfl)
              try simp only [List.getElem_toArray, List.getElem_cons_succ, List.getElem_cons_zero, Act.put, List.setIfInBounds_toArray, List.set_cons_zero, List.set_cons_succ]
              refine wpAnyH_take (i := 8) (v := ?v8_19) rfl (by kernel_rfl) (by kernel_rfl) (by kernel_rfl) (fun _ _ _ h => h) (Or.inl ⟨by rfl, ?y8_19⟩) hHeld ?r8_19
              case y8_19 => (intro w hSw; (try dsimp only at hSw); go_split_ands; go_simp; try with_reducible rfl)
              try simp only [List.getElem_toArray, List.getElem_cons_succ, List.getElem_cons_zero, Act.put, List.setIfInBounds_toArray, List.set_cons_zero, List.set_cons_succ]
              refine wpAnyH_take (i := 9) (v := ?v9_20) rfl (by kernel_rfl) (by kernel_rfl) (by kernel_rfl) (fun _ _ _ h => h) (Or.inl ⟨by rfl, ?y9_20⟩) hHeld ?r9_20
              case y9_20 => (intro w hSw; (try dsimp only at hSw); go_split_ands; go_simp; try with_reducible rfl)
              try simp only [List.getElem_toArray, List.getElem_cons_succ, List.getElem_cons_zero, Act.put, List.setIfInBounds_toArray, List.set_cons_zero, List.set_cons_succ]
              refine wpAnyH_take (i := 10) (v := ?v10_21) rfl (by kernel_rfl) (by kernel_rfl) (by kernel_rfl) (fun _ _ _ h => h) (Or.inl ⟨by rfl, ?y10_21⟩) hHeld ?r10_21
              case y10_21 => (intro w hSw; (try dsimp only at hSw); go_split_ands; go_simp; try with_reducible rfl)
              try simp only [List.getElem_toArray, List.getElem_cons_succ, List.getElem_cons_zero, Act.put, List.setIfInBounds_toArray, List.set_cons_zero, List.set_cons_succ]
              refine wpAnyH_ready (rs := [5]) (by kernel_rfl) (by simp) ?_
              refine AllReadyH.cons rfl (fun K hK => ?_) AllReadyH.nil
              have hHeld' := hHeld
              try dsimp only at hHeld'
              go_split_ands
              go_simp
              refine (C1.out).mono ?_
              rintro e w5 ⟨rfl, hn⟩
              have hb5 := hbD.out.tr hn
              clear hn
              replace hb5 := Lib.hid hb5
              refine hK.out _ _ ?_ (fun hHeld => ?_)
              · exact trivial
              clear hK K
              try simp only [List.getElem_toArray, List.getElem_cons_succ, List.getElem_cons_zero, Act.put, List.setIfInBounds_toArray, List.set_cons_zero, List.set_cons_succ]
              refine wpAnyH_ready (rs := [11]) (by kernel_rfl) (by simp) ?_
              refine AllReadyH.cons rfl (fun K hK => ?_) AllReadyH.nil
              have hHeld' := hHeld
              try dsimp only at hHeld'
              go_split_ands
              go_simp
              refine (C2.out _ hb5.out).mono ?_
              rintro e w6 ⟨rfl, hn⟩
              have hb6 := hb5.out.tr hn
              clear hn
              replace hb6 := Lib.hid hb6
              refine hK.out _ _ ?_ (fun hHeld => ?_)
              · exact trivial
              clear hK K
              try simp only [List.getElem_toArray, List.getElem_cons_succ, List.getElem_cons_zero, Act.put, List.setIfInBounds_toArray, List.set_cons_zero, List.set_cons_succ]
              refine wpAnyH_take (i := 12) (v := ?v12_22) rfl (by kernel_rfl) (by kernel_rfl) (by kernel_rfl) (fun _ _ _ h => h) (Or.inl ⟨by rfl, ?y12_22⟩) hHeld ?r12_22
              case y12_22 => (intro w hSw; (try dsimp only at hSw); go_split_ands; go_simp; try with_reducible rfl)
              try simp only [List.getElem_toArray, List.getElem_cons_succ, List.getElem_cons_zero, Act.put, List.setIfInBounds_toArray, List.set_cons_zero, List.set_cons_succ]
              refine wpAnyH_done (by kernel_rfl) ?_ _
              go_wp2_with fail
              go_roundw
              case rel => exact ⟨1 + 1, by omega, by first | rfl | go_num, hb6.out⟩
              case measure => simp [intOf]
            · have C1 : Calls Tryd.prog 15 #[.slice (some ⟨g, 4, none⟩) 1 2] wr.drew fun e w' => e = .returned (E (checkF [L.getD 2 h0])) ∧ Bl wr.drew w' := CH.out 2 (by omega) 2 (by omega) (by omega) _ hbr.dr
              have C2 := Lib.hid (fun X hb => (CR.out 2 (by omega) 2 (by omega) (by omega) X hb : Calls Tryd.prog 16 #[.slice (some ⟨g, 4, none⟩) 1 2] X fun e w' => e = .returned (E (checkF [L.getD 2 h0])) ∧ Bl X w'))
              have hbD := hbr.dr
              obtain ⟨K, hK⟩ : ∃ z_, (checkF [L.getD 2 h0]) = z_ := ⟨_, rfl⟩
              rw [hK] at C1
              simp only [hK] at C2
              have hne : (K != K) = false := by simp
              have ww : IntKind.i64.wrap (2 + 1) = (2 + 1 : Int) := by rw [IntKind.wrap_i64]; omega
              have ww1 : IntKind.i64.wrap 1 = 1 := by rw [IntKind.wrap_i64]; rfl
              have ww2 : IntKind.i64.wrap 2 = 2 := by rw [IntKind.wrap_i64]; rfl
              have ww3 : IntKind.i64.wrap 3 = 3 := by rw [IntKind.wrap_i64]; rfl
              have ww4 : IntKind.i64.wrap 4 = 4 := by rw [IntKind.wrap_i64]; rfl
              clear hK hbr
              replace hbD := Lib.hid hbD
              replace C1 := Lib.hid C1
              go_wp2_with fail
              refine wp_region_held_drew (S := fun w' => True) (by kernel_rfl) ?_ (fun hHeld => ?_)
              · exact trivial
              refine wpAnyH_take (i := 0) (v := ?v0_23) rfl (by kernel_rfl) (by kernel_rfl) (by kernel_rfl) (fun _ _ _ h => h) (Or.inl ⟨by rfl, ?y0_23⟩) hHeld ?r0_23
              case y0_23 => (intro w hSw; (try dsimp only at hSw); go_split_ands; go_simp; try with_reducible rfl)
              try simp only [List.getElem_toArray, List.getElem_cons_succ, List.getElem_cons_zero, Act.put, List.setIfInBounds_toArray, List.set_cons_zero, List.set_cons_succ]
              refine wpAnyH_take (i := 1) (v := ?v1_24) rfl (by kernel_rfl) (by kernel_rfl) (by kernel_rfl) (fun _ _ _ h => h) (Or.inl ⟨by rfl, ?y1_24⟩) hHeld ?r1_24
              case y1_24 => (intro w hSw; (try dsimp only at hSw); go_split_ands; go_simp; try with_reducible rfl)
              try simp only [List.getElem_toArray, List.getElem_cons_succ, List.getElem_cons_zero, Act.put, List.setIfInBounds_toArray, List.set_cons_zero, List.set_cons_succ]
              refine wpAnyH_take (i := 2) (v := ?v2_25) rfl (by kernel_rfl) (by kernel_rfl) (by kernel_rfl) (fun _ _ _ h => h) (Or.inl ⟨by rfl, ?y2_25⟩) hHeld ?r2_25
              case y2_25 => (intro w hSw; (try dsimp only at hSw); go_split_ands; go_simp; try with_reducible rfl)
              try simp only [List.getElem_toArray, List.getElem_cons_succ, List.getElem_cons_zero, Act.put, List.setIfInBounds_toArray, List.set_cons_zero, List.set_cons_succ]
              refine wpAnyH_take (i := 3) (v := ?v3_26) rfl (by kernel_rfl) (by kernel_rfl) (by kernel_rfl) (fun _ _ _ h => h) (Or.inl ⟨by rfl, ?y3_26⟩) hHeld ?r3_26
              case y3_26 => (intro w hSw; (try dsimp only at hSw); go_split_ands; go_simp; try with_reducible rfl)
              try simp only [List.getElem_toArray, List.getElem_cons_succ, List.getElem_cons_zero, Act.put, List.setIfInBounds_toArray, List.set_cons_zero, List.set_cons_succ]
              refine wpAnyH_take (i := 4) (v := ?v4_27) rfl (by kernel_rfl) (by kernel_rfl) (by kernel_rfl) (fun _ _ _ h => h) (Or.inl ⟨by rfl, ?y4_27⟩) hHeld ?r4_27
              case y4_27 => (intro w hSw; (try dsimp only at hSw); go_split_ands; go_simp; try with_reducible rfl)
              try simp only [List.getElem_toArray, List.getElem_cons_succ, List.getElem_cons_zero, Act.put, List.setIfInBounds_toArray, List.set_cons_zero, List.set_cons_succ]
              refine wpAnyH_take (i := 6) (v := ?v6_28) rfl (by kernel_rfl) (by kernel_rfl) (by kernel_rfl) (fun _ _ _ h => h) (Or.inl ⟨by rfl, ?y6_28⟩) hHeld ?r6_28
              case y6_28 => (intro w hSw; (try dsimp only at hSw); go_split_ands; go_simp; try with_reducible rfl)
              try simp only [List.getElem_toArray, List.getElem_cons_succ, List.getElem_cons_zero, Act.put, List.setIfInBounds_toArray, List.set_cons_zero, List.set_cons_succ]
              refine wpAnyH_take (i := 7) (v := ?v7_29) rfl (by kernel_rfl) (by kernel_rfl) (by kernel_rfl) (fun _ _ _ h => h) (Or.inl ⟨by rfl, ?y7_29⟩) hHeld ?r7_29
              case y7_29 => (intro w hSw; (try dsimp only at hSw); go_split_ands; go_simp; try with_reducible rfl)
              try simp only [List.getElem_toArray, List.getElem_cons_succ, List.getElem_cons_zero, Act.put, List.setIfInBounds_toArray, List.set_cons_zero, List.set_cons_succ]
              refine wpAnyH_take (i := 8) (v := ?v8_30) rfl (by kernel_rfl) (by kernel_rfl) (by kernel_rfl) (fun _ _ _ h => h) (Or.inl ⟨by rfl, ?y8_30⟩) hHeld ?r8_30
              case y8_30 => (intro w hSw; (try dsimp only at hSw); go_split_ands; go_simp; try with_reducible rfl)
              try simp only [List.getElem_toArray, List.getElem_cons_succ, List.getElem_cons_zero, Act.put, List.setIfInBounds_toArray, List.set_cons_zero, List.set_cons_succ]
              refine wpAnyH_take (i := 9) (v := ?v9_31) rfl (by kernel_rfl) (by kernel_rfl) (by kernel_rfl) (fun _ _ _ h => h) (Or.inl ⟨by rfl, ?y9_31⟩) hHeld ?r9_31
              case y9_31 => (intro w hSw; (try dsimp only at hSw); go_split_ands; go_simp; try with_reducible rfl)
              try simp only [List.getElem_toArray, List.getElem_cons_succ, List.getElem_cons_zero, Act.put, List.setIfInBounds_toArray, List.set_cons_zero, List.set_cons_succ]
              refine wpAnyH_take (i := 10) (v := ?v10_32) rfl (by kernel_rfl) (by kernel_rfl) (by kernel_rfl) (fun _ _ _ h => h) (Or.inl ⟨by rfl, ?y10_32⟩) hHeld ?r10_32
              case y10_32 => (intro w hSw; (try dsimp only at hSw); go_split_ands; go_simp; try with_reducible rfl)
              try simp only [List.getElem_toArray, List.getElem_cons_succ, List.getElem_cons_zero, Act.put, List.setIfInBounds_toArray, List.set_cons_zero, List.set_cons_succ]
              refine wpAnyH_ready (rs := [5]) (by kernel_rfl) (by simp) ?_
              refine AllReadyH.cons rfl (fun K hK => ?_) AllReadyH.nil
              have hHeld' := hHeld
              try dsimp only at hHeld'
              go_split_ands
              go_simp
              refine (C1.out).mono ?_
              rintro e w5 ⟨rfl, hn⟩
              have hb5 := hbD.out.tr hn
              clear hn
              replace hb5 := Lib.hid hb5
              refine hK.out _ _ ?_ (fun hHeld => ?_)
              · exact trivial
              clear hK K
              try simp only [List.getElem_toArray, List.getElem_cons_succ, List.getElem_cons_zero, Act.put, List.setIfInBounds_toArray, List.set_cons_zero, List.set_cons_succ]
              refine wpAnyH_ready (rs := [11]) (by kernel_rfl) (by simp) ?_
              refine AllReadyH.cons rfl (fun K hK => ?_) AllReadyH.nil
              have hHeld' := hHeld
              try dsimp only at hHeld'
              go_split_ands
              go_simp
              refine (C2.out _ hb5.out).mono ?_
              rintro e w6 ⟨rfl, hn⟩
              have hb6 := hb5.out.tr hn
              clear hn
              replace hb6 := Lib.hid hb6
              refine hK.out _ _ ?_ (fun hHeld => ?_)
              · exact trivial
              clear hK K
              try simp only [List.getElem_toArray, List.getElem_cons_succ, List.getElem_cons_zero, Act.put, List.setIfInBounds_toArray, List.set_cons_zero, List.set_cons_succ]
              refine wpAnyH_take (i := 12) (v := ?v12_33) rfl (by kernel_rfl) (by kernel_rfl) (by kernel_rfl) (fun _ _ _ h => h) (Or.inl ⟨by rfl, ?y12_33⟩) hHeld ?r12_33
              case y12_33 => (intro w hSw; (try dsimp only at hSw); go_split_ands; go_simp; try with_reducible rfl)
              try simp only [List.getElem_toArray, List.getElem_cons_succ, List.getElem_cons_zero, Act.put, List.setIfInBounds_toArray, List.set_cons_zero, List.set_cons_succ]
              refine wpAnyH_done (by kernel_rfl) ?_ _
              go_wp2_with fail
              go_roundw
              case rel => exact ⟨2 + 1, by omega, by first | rfl | go_num, hb6.out⟩
              case measure => simp [intOf]
            · have C1 : Calls Tryd.prog 15 #[.slice (some ⟨g, 6, none⟩) 1 1] wr.drew fun e w' => e = .returned (E (checkF [L.getD 3 h0])) ∧ Bl wr.drew w' := CH.out 3 (by omega) 1 (by omega) (by omega) _ hbr.dr
              have C2 := Lib.hid (fun X hb => (CR.out 3 (by omega) 1 (by omega) (by omega) X hb : Calls Tryd.prog 16 #[.slice (some ⟨g, 6, none⟩) 1 1] X fun e w' => e = .returned (E (checkF [L.getD 3 h0])) ∧ Bl X w'))
              have hbD := hbr.dr
              obtain ⟨K, hK⟩ : ∃ z_, (checkF [L.getD 3 h0]) = z_ := ⟨_, rfl⟩
              rw [hK] at C1
              simp only [hK] at C2
              have hne : (K != K) = false := by simp
              have ww : IntKind.i64.wrap (3 + 1) = (3 + 1 : Int) := by rw [IntKind.wrap_i64]; omega
              have ww1 : IntKind.i64.wrap 1 = 1 := by rw [IntKind.wrap_i64]; rfl
              have ww2 : IntKind.i64.wrap 2 = 2 := by rw [IntKind.wrap_i64]; rfl
              have ww3 : IntKind.i64.wrap 3 = 3 := by rw [IntKind.wrap_i64]; rfl
              have ww4 : IntKind.i64.wrap 4 = 4 := by rw [IntKind.wrap_i64]; rfl
              clear hK hbr
              replace hbD := Lib.hid hbD
              replace C1 := Lib.hid C1
              go_wp2_with fail
              refine wp_region_held_drew (S := fun w' => True) (by kernel_rfl) ?_ (fun hHeld => ?_)
              · exact trivial
              refine wpAnyH_take (i := 0) (v := ?v0_34) rfl (by kernel_rfl) (by kernel_rfl) (by kernel_rfl) (fun _ _ _ h => h) (Or.inl ⟨by rfl, ?y0_34⟩) hHeld ?r0_34
              case y0_34 => (intro w hSw; (try dsimp only at hSw); go_split_ands; go_simp; try with_reducible rfl)
              try simp only [List.getElem_toArray, List.getElem_cons_succ, List.getElem_cons_zero, Act.put, List.setIfInBounds_toArray, List.set_cons_zero, List.set_cons_succ]
              refine wpAnyH_take (i := 1) (v := ?v1_35) rfl (by kernel_rfl) (by kernel_rfl) (by kernel_rfl) (fun _ _ _ h => h) (Or.inl ⟨by rfl, ?y1_35⟩) hHeld ?r1_35
              case y1_35 => (intro w hSw; (try dsimp only at hSw); go_split_ands; go_simp; try with_reducible rfl)
              try simp only [List.getElem_toArray, List.getElem_cons_succ, List.getElem_cons_zero, Act.put, List.setIfInBounds_toArray, List.set_cons_zero, List.set_cons_succ]
              refine wpAnyH_take (i := 2) (v := ?v2_36) rfl (by kernel_rfl) (by kernel_rfl) (by kernel_rfl) (fun _ _ _ h => h) (Or.inl ⟨by rfl, ?y2_36⟩) hHeld ?r2_36
              case y2_36 => (intro w hSw; (try dsimp only at hSw); go_split_ands; go_simp; try with_reducible rfl)
              try simp only [List.getElem_toArray, List.getElem_cons_succ, List.getElem_cons_zero, Act.put, List.setIfInBounds_toArray, List.set_cons_zero, List.set_cons_succ]
              refine wpAnyH_take (i := 3) (v := ?v3_37) rfl (by kernel_rfl) (by kernel_rfl) (by kernel_rfl) (fun _ _ _ h => h) (Or.inl ⟨by rfl, ?y3_37⟩) hHeld ?r3_37
              case y3_37 => (intro w hSw; (try dsimp only at hSw); go_split_ands; go_simp; try with_reducible rfl)
              try simp only [List.getElem_toArray, List.getElem_cons_succ, List.getElem_cons_zero, Act.put, List.setIfInBounds_toArray, List.set_cons_zero, List.set_cons_succ]
              refine wpAnyH_take (i := 4) (v := ?v4_38) rfl (by kernel_rfl) (by kernel_rfl) (by kernel_rfl) (fun _ _ _ h => h) (Or.inl ⟨by rfl, ?y4_38⟩) hHeld ?r4_38
              case y4_38 => (intro w hSw; (try dsimp only at hSw); go_split_ands; go_simp; try with_reducible rfl)
              try simp only [List.getElem_toArray, List.getElem_cons_succ, List.getElem_cons_zero, Act.put, List.setIfInBounds_toArray, List.set_cons_zero, List.set_cons_succ]
              refine wpAnyH_take (i := 6) (v := ?v6_39) rfl (by kernel_rfl) (by kernel_rfl) (by kernel_rfl) (fun _ _ _ h => h) (Or.inl ⟨by rfl, ?y6_39⟩) hHeld ?r6_39
              case y6_39 => (intro w hSw; (try dsimp only at hSw); go_split_ands; go_simp; try with_reducible rfl)
              try simp only [List.getElem_toArray, List.getElem_cons_succ, List.getElem_cons_zero, Act.put, List.setIfInBounds_toArray, List.set_cons_zero, List.set_cons_succ]
              refine wpAnyH_take (i := 7) (v := ?v7_40) rfl (by kernel_rfl) (by kernel_rfl) (by kernel_rfl) (fun _ _ _ h => h) (Or.inl ⟨by rfl, ?y7_40⟩) hHeld ?r7_40
              case y7_40 => (intro w hSw; (try dsimp only at hSw); go_split_ands; go_simp; try with_reducible rfl)
              try simp only [List.getElem_toArray, List.getElem_cons_succ, List.getElem_cons_zero, Act.put, List.setIfInBounds_toArray, List.set_cons_zero, List.set_cons_succ]
              refine wpAnyH_take (i := 8) (v := ?v8_41) rfl (by kernel_rfl) (by kernel_rfl) (by kernel_rfl) (fun _ _ _ h => h) (Or.inl ⟨by rfl, ?y8_41⟩) hHeld ?r8_41
              case y8_41 => (intro w hSw; (try dsimp only at hSw); go_split_ands; go_simp; try with_reducible rfl)
              try simp only [List.getElem_toArray, List.getElem_cons_succ, List.getElem_cons_zero, Act.put, List.setIfInBounds_toArray, List.set_cons_zero, List.set_cons_succ]
              refine wpAnyH_take (i := 9) (v := ?v9_42) rfl (by kernel_rfl) (by kernel_rfl) (by kernel_rfl) (fun _ _ _ h => h) (Or.inl ⟨by rfl, ?y9_42⟩) hHeld ?r9_42
              case y9_42 => (intro w hSw; (try dsimp only at hSw); go_split_ands; go_simp; try with_reducible rfl)
              try simp only [List.getElem_toArray, List.getElem_cons_succ, List.getElem_cons_zero, Act.put, List.setIfInBounds_toArray, List.set_cons_zero, List.set_cons_succ]
              refine wpAnyH_take (i := 10) (v := ?v10_43) rfl (by kernel_rfl) (by kernel_rfl) (by kernel_rfl) (fun _ _ _ h => h) (Or.inl ⟨by rfl, ?y10_43⟩) hHeld ?r10_43
              case y10_43 => (intro w hSw; (try dsimp only at hSw); go_split_ands; go_simp; try with_reducible rfl)
              try simp only [List.getElem_toArray, List.getElem_cons_succ, List.getElem_cons_zero, Act.put, List.setIfInBounds_toArray, List.set_cons_zero, List.set_cons_succ]
              refine wpAnyH_ready (rs := [5]) (by kernel_rfl) (by simp) ?_
              refine AllReadyH.cons rfl (fun K hK => ?_) AllReadyH.nil
              have hHeld' := hHeld
              try dsimp only at hHeld'
              go_split_ands
              go_simp
              refine (C1.out).mono ?_
              rintro e w5 ⟨rfl, hn⟩
              have hb5 := hbD.out.tr hn
              clear hn
              replace hb5 := Lib.hid hb5
              refine hK.out _ _ ?_ (fun hHeld => ?_)
              · exact trivial
              clear hK K
              try simp only [List.getElem_toArray, List.getElem_cons_succ, List.getElem_cons_zero, Act.put, List.setIfInBounds_toArray, List.set_cons_zero, List.set_cons_succ]
              refine wpAnyH_ready (rs := [11]) (by kernel_rfl) (by simp) ?_
              refine AllReadyH.cons rfl (fun K hK => ?_) AllReadyH.nil
              have hHeld' := hHeld
              try dsimp only at hHeld'
              go_split_ands
              go_simp
              refine (C2.out _ hb5.out).mono ?_
              rintro e w6 ⟨rfl, hn⟩
              have hb6 := hb5.out.tr hn
              clear hn
              replace hb6 := Lib.hid hb6
              refine hK.out _ _ ?_ (fun hHeld => ?_)
              · exact trivial
              clear hK K
              try simp only [List.getElem_toArray, List.getElem_cons_succ, List.getElem_cons_zero, Act.put, List.setIfInBounds_toArray, List.set_cons_zero, List.set_cons_succ]
              refine wpAnyH_take (i := 12) (v := ?v12_44) rfl (by kernel_rfl) (by kernel_rfl) (by kernel_rfl) (fun _ _ _ h => h) (Or.inl ⟨by rfl, ?y12_44⟩) hHeld ?r12_44
              case y12_44 => (intro w hSw; (try dsimp only at hSw); go_split_ands; go_simp; try with_reducible rfl)
              try simp only [List.getElem_toArray, List.getElem_cons_succ, List.getElem_cons_zero, Act.put, List.setIfInBounds_toArray, List.set_cons_zero, List.set_cons_succ]
              refine wpAnyH_done (by kernel_rfl) ?_ _
              go_wp2_with fail
              go_roundw
              case rel => exact ⟨3 + 1, by omega, by first | rfl | go_num, hb6.out⟩
              case measure => simp [intOf]
            · replace hbr := Lib.hid hbr
              go_wp2_with fail
              with_reducible refine (A3.out _).mono ?_
              rintro e w' ⟨rfl, rfl⟩
              obtain ⟨wC, hwC⟩ : ∃ x, x = wr := ⟨_, rfl⟩
              subst hwC
              clear A3 CH CR hL4
              go_wp2_with fail
              go_loopw [16, 17] (fun o i wr => ∃ (k : Nat) (M : List Hd), i = I k ∧ M.length + k ≤ 10 ∧ Fit M ∧ OwnB hB 2 25 wr wC.heap.size o M ∧ Bl wC wr) (fun _ i _ => (intOf i).toNat)
              case atStart => exact ⟨Z, [], rfl, by simpa using hZ10, fun x hx => (by cases hx), OwnB.nil _ _ _, Bl.rfl' _⟩
              case round =>
                obtain ⟨k, M, rfl, hMk, hMf, hown, hbq⟩ := hrel
                by_cases hk : 0 < k
                · have d1 : decide ((k : Int) > 0) = true := decide_eq_true (by omega)
                  have d2 : decide (0 < k) = true := decide_eq_true hk
                  have wk : IntKind.i64.wrap ((k : Int) - 1) = ((k - 1 : Nat) : Int) := by rw [IntKind.wrap_i64]; omega
                  have DK := fun w => DM.out k w (by omega)
                  have szk := decS_size 2 k
                  obtain ⟨d, hd⟩ : ∃ z_, (decS 2 k) = z_ := ⟨_, rfl⟩
                  rw [hd] at szk
                  simp only [hd] at DK
                  clear hd
                  have s1 : ((⟨#[104]⟩ : ByteArray) ++ d).size = d.size + 1 := by rw [ByteArray.size_append]; show 1 + d.size = _; omega
                  have aa : ∀ w, (Op.stringOp .add ⟨#[104]⟩ d).run Tryd.prog w = .ok (.string (⟨#[104]⟩ ++ d)) w := fun w => run_string_add_sum w ⟨#[104]⟩ d (by have : (⟨#[104]⟩ : ByteArray).size = 1 := rfl; omega)
                  obtain ⟨p, hp⟩ : ∃ z_, ((⟨#[104]⟩ : ByteArray) ++ d) = z_ := ⟨_, rfl⟩
                  rw [hp] at s1
                  simp only [hp] at aa
                  clear hp
                  replace hown := Lib.hid hown
                  replace hbq := Lib.hid hbq
                  replace DK := Lib.hid DK
                  go_wp2_with fail
                  with_reducible refine (DK.out _).mono ?_
                  rintro e w5 ⟨rfl, hn⟩
                  have hown5 := hown.out.bl hn
                  have hb5 := hbq.out.tr hn
                  have hs5 := hb5.size
                  clear DK hn hown hbq
                  obtain ⟨ra, rg, rcap, rfl, hrg, hrc, hrc2, hRR⟩ := OwnB.row hown5 (by decide)
                  replace hown5 : w5.ownsRow wC.heap.size 25 2 (.slice ra M.length rcap) M.length (flatB hB M) := hown5
                  replace hown5 := Lib.hid hown5
                  replace hb5 := Lib.hid hb5
                  replace hRR := Lib.hid hRR
                  go_wp2_with (at_builtin; refine wpList_append_row rfl _ _ 22 rfl wC.heap.size 25 iu (.agg #[S ByteArray.empty, S ByteArray.empty]) 2 32 Tryd.underlying22 hiu zu0 zu1 zu2 rfl (by decide) _ M.length (flatB hB M) rfl hown5.out #[S p, S ⟨#[]⟩] _ rfl (by intro u hu; simp at hu; rcases hu with rfl | rfl <;> rfl) 1 (by first | rfl | simp [Act.eval, Act.put]) (by omega) (by omega) (by omega) ?_)
                  intro b' cap' w7 hown7 hgrow7
                  have hb7 := hb5.out.grown hgrow7 (fun k hk => (hown5.out.lt k hk).1)
                  clear hgrow7
                  replace hown7 := Lib.hid hown7
                  replace hb7 := Lib.hid hb7
                  go_wp2_with fail
                  go_roundw
                  case rel => exact ⟨k - 1, M ++ [⟨p, ⟨#[]⟩⟩], by first | rfl | go_num | (congr 1; omega), by rw [List.length_append]; show M.length + 1 + (k - 1) ≤ 10; omega, (by
                    intro x hx
                    rcases List.mem_append.1 hx with hx | hx
                    · exact hMf x hx
                    · have : x = ⟨p, ⟨#[]⟩⟩ := by simpa using hx
                      rw [this]
                      have t4 : (⟨#[]⟩ : ByteArray).size = 0 := rfl
                      exact ⟨by show p.size ≤ 1000000; omega, by show (⟨#[]⟩ : ByteArray).size ≤ 1000000; omega⟩), by unfold OwnB; rw [flatB_snoc, List.length_append]; exact hown7.out, hb7.out⟩
                  case measure => simp [intOf] <;> omega
                · obtain rfl : k = 0 := by omega
                  have hHM := heads_own hown
                  have hbz := (hbW.out.tr hbr.out).tr hbq
                  have KC := Lib.hid (check_any _ M wr hHM (by omega) hMf)
                  have KR := Lib.hid (fun X hb => rcheck_any _ M X (hHM.bl hb) (by omega) hMf)
                  obtain ⟨K, hK⟩ : ∃ z_, (checkF M) = z_ := ⟨_, rfl⟩
                  rw [hK] at KC
                  simp only [hK] at KR
                  have hee : (K == K) = true := by simp
                  clear hK hown hHM hbq
                  replace hbz := Lib.hid hbz
                  go_wp2_with fail
                  with_reducible refine (KC.out).mono ?_
                  rintro e wa ⟨rfl, hn⟩
                  have hbz1 := hbz.out.tr hn
                  replace hbz1 := Lib.hid hbz1
                  go_wp2_with fail
                  with_reducible refine (KR.out _ hn).mono ?_
                  rintro e wb ⟨rfl, hn2⟩
                  have hbz2 := hbz1.out.tr hn2
                  clear hn2 hn KC KR
                  replace hbz2 := Lib.hid hbz2
                  go_wp2_with fail
                  with_reducible refine (LV.out _).mono ?_
                  rintro e wl ⟨rfl, hn⟩
                  go_wp2_with fail
                  go_ret
                  exact ⟨rfl, hbz2.out.tr hn⟩
end Go.Proofs.YtcbpagbalagllaaDoor.headsEdges
