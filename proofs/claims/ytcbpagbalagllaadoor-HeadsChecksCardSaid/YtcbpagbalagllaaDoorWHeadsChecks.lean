/-
  HeadsChecks is true for every input: how heads are wrong is told as the document says. No condition.
-/
import Derived.Test.YtcbpagbalagllaaDoorHdR
import Derived.Test.YtcbpagbalagllaaDoorHdD
import Derived.Test.YtcbpagbalagllaaDoorShort
import Derived.Test.YtcbpagbalagllaaDoorHdM
import Derived.Test.YtcbpagbalagllaaDoorHdI
import Derived.Test.YtcbpagbalagllaaDoorHdH
import Derived.StillTail
import Derived.StillTailTactics
namespace Go.Proofs.YtcbpagbalagllaaDoor.headsChecks
open Go.ChangeShapes Go.WideShapes Go.ChangeAt Go.RowKit
open Go.Proofs.YtcbpagbalagllaaDoor.heads
set_option linter.unusedVariables false
set_option linter.unusedSimpArgs false

theorem fit_snoc {M : List Hd} {x : Hd} (h : Fit M) (h1 : x.n.size ≤ 70) (h2 : x.v.size ≤ 70) : Fit (M ++ [x]) := by
  intro y hy
  rcases List.mem_append.1 hy with hy | hy
  · exact h y hy
  · have : y = x := by simpa using hy
    rw [this]; omega
theorem head_take {w : World} {a : Option Addr} {n cap : Nat} {A : List Hd} (h : HeadsAt w (.slice a n cap) A) (j : Nat) (hj : j ≤ A.length) : HeadsAt w (.slice a j cap) (A.take j) := by
  obtain ⟨a', g, o, cap', e, h1, h2, h3⟩ := h
  simp only [Value.slice.injEq] at e
  obtain ⟨rfl, -, rfl⟩ := e
  exact ⟨a, g, o, cap, by rw [List.length_take, Nat.min_eq_left hj], by rw [List.length_take]; omega, h2, RowB_take h3 j⟩
theorem head_drop {w : World} {a : Option Addr} {n cap : Nat} {A : List Hd} (h : HeadsAt w (.slice a n cap) A) (j : Nat) (hj : j ≤ A.length) : HeadsAt w (.slice (if cap = j then a else a.map (fun x => x.add (j * 2))) (A.length - j) (cap - j)) (A.drop j) := by
  obtain ⟨a', g, o, cap', e, h1, ⟨h2, h2'⟩, h3⟩ := h
  simp only [Value.slice.injEq] at e
  obtain ⟨rfl, -, rfl⟩ := e
  refine ⟨_, g, o + j * 2, cap - j, by rw [List.length_drop], by rw [List.length_drop]; omega, ⟨by omega, fun hn => ?_⟩, fun hl => ?_⟩
  · by_cases hc : cap = j
    · omega
    · rw [if_neg hc] at hn
      have := h2' (by simpa using hn)
      omega
  · rw [List.length_drop] at hl
    obtain ⟨q1, cur, T, q2, q3⟩ := h3 (by omega)
    subst q1
    rw [if_neg (by omega : ¬ cap = j)]
    refine ⟨by rw [Option.map_some, add_plain], cur, T, q2, fun i hi => ?_⟩
    rw [List.length_drop] at hi
    have e := q3 (j * 2 + i) (by omega)
    rw [← Nat.add_assoc] at e
    rw [e]
    conv => lhs; rw [← List.take_append_drop j A, flatB_app]
    have hl2 : (flatB hB (A.take j)).length = j * 2 := by rw [flatB_len hB_len, List.length_take, Nat.min_eq_left hj]
    rw [List.getElem?_append_right (by omega), hl2]
    congr 1; omega
set_option maxRecDepth 20000 in
set_option maxHeartbeats 8000000 in
theorem walk {w : World} (v0 : Value) (R : List Hd) (hR : RawAt w v0 R) (hL : Long R) (v1 : Value) (z1 : List Int) (hv1 : IntsAt w v1 z1) (hz1 : i64ok z1) (hm1 : z1.length ≤ maxLen) (hn : ByteArray) (ln : hn.size ≤ 9223372036854775807) (hu : ByteArray) (lu : hu.size ≤ 9223372036854775807) (a3 : Int) (l3 : -9223372036854775808 ≤ a3) (u3 : a3 ≤ 9223372036854775807) :
    Calls Tryd.prog 3 #[v0, v1, .agg #[.string hn, .string hu], I a3] w fun e w' => e = .returned (.bool true) ∧ Bl w w' := by
  obtain ⟨iu, hiu, zu0, zu1, zu2⟩ := info_parts infoH
  have SH := Lib.hid (fun s w h => (short_any s 70 w h (by omega) : Calls Tryd.prog 12 #[S s, I 70] w fun e w' => e = .returned (S (shortS s 70)) ∧ w = w'))
  have LV := Lib.hid lives_any
  have hbX := (Bl.rfl' w).al (.cells #[.string hn, .string hu] 25)
  have hXD := heap_alloc_new w (.cells #[.string hn, .string hu] 25)
  go_enter Tryd.func3, Tryd.ntmps3
  go_wp2_with fail
  obtain ⟨wX, hwX⟩ : ∃ x, w.alloc (.cells #[.string hn, .string hu] 25) = x := ⟨_, rfl⟩
  rw [hwX] at hbX hXD ⊢
  have hRX := hR.bl hbX
  obtain ⟨ra, rb, ro, rcap, rfl, rlm, RC⟩ := hRX
  clear hwX hR
  replace hbX := Lib.hid hbX
  replace hXD := Lib.hid hXD
  replace RC := Lib.hid RC
  go_loopw [9, 10] (fun o i wr => ∃ (k : Nat) (M : List Hd), k ≤ 10 ∧ k ≤ R.length ∧ i = I k ∧ M.length = k ∧ Fit M ∧ OwnB hB 2 25 wr wX.heap.size o M ∧ Bl wX wr) (fun _ i _ => R.length - (intOf i).toNat)
  case atStart => exact ⟨0, [], by omega, by omega, rfl, rfl, fun x hx => (by cases hx), OwnB.nil _ _ _, Bl.rfl' _⟩
  case round =>
    obtain ⟨k, M, hk10, hkR, rfl, hMk, hMf, hown, hbr⟩ := hrel
    by_cases hk : k < R.length ∧ k < 10
    · obtain ⟨hk1, hk2⟩ := hk
      have d1 : decide ((k : Int) < (R.length : Int)) = true := decide_eq_true (by omega)
      have d2 : decide ((k : Int) < 10) = true := decide_eq_true (by omega)
      have d3 : decide (k < R.length) = true := decide_eq_true hk1
      have d4 : decide (k < 10) = true := decide_eq_true hk2
      have wk : IntKind.i64.wrap ((k : Int) + 1) = ((k + 1 : Nat) : Int) := by rw [IntKind.wrap_i64]; omega
      obtain ⟨rfl, hbl, C0, C1⟩ := RC.out k hk1
      have hLk := hL (R.getD k h0) (by rw [List.getD_eq_getElem?_getD, List.getElem?_eq_getElem hk1]; exact List.getElem_mem _)
      obtain ⟨x, hx⟩ : ∃ z_, (R.getD k h0) = z_ := ⟨_, rfl⟩
      rw [hx] at C0 C1 hLk
      obtain ⟨xn, xv⟩ := x
      obtain ⟨b1, b2⟩ := hLk
      simp only at C0 C1 b1 b2
      have KC := Lib.hid (fun w' (hb : Bl wX w') => (⟨(hb.cell (p := ⟨rb, _, none⟩) hbl).trans C0, (hb.cell (p := ⟨rb, _, none⟩) hbl).trans C1⟩ : w'.cell? ⟨rb, ro + k * 2, none⟩ = some (S xn) ∧ w'.cell? ⟨rb, ro + k * 2 + 1, none⟩ = some (S xv)))
      have hown5 := OwnB.bl hown (Bl.rfl' wr).dr
      have hbd := hbr.dr
      obtain ⟨wd, hwd⟩ : ∃ x, wr.drew = x := ⟨_, rfl⟩
      have S1 := SH.out xn wr.drew b1
      have S2 := SH.out xv wr.drew b2
      have z1 := shortS_size xn 70
      have z2 := shortS_size xv 70
      obtain ⟨sn, hsn⟩ : ∃ z_, (shortS xn 70) = z_ := ⟨_, rfl⟩
      rw [hsn] at S1 z1
      obtain ⟨sv, hsv⟩ : ∃ z_, (shortS xv 70) = z_ := ⟨_, rfl⟩
      rw [hsv] at S2 z2
      obtain ⟨oa, og, ocap, rfl, og1, og2, og3, ogR⟩ := OwnB.row hown5 (by decide)
      replace hown5 : wr.drew.ownsRow wX.heap.size 25 2 (.slice oa M.length ocap) M.length (flatB hB M) := hown5
      have hMl : M.length ≤ 10 := by omega
      have hsz := hbd.size
      rw [hwd] at hown5 hbd S1 S2 hsz
      have hba := hbd.al (.cells #[S sn, S sv] 25)
      clear hown ogR hsn hsv hx C0 C1
      replace hown5 := Lib.hid hown5
      replace hbd := Lib.hid hbd
      replace hMk := Lib.hid hMk
      replace hba := Lib.hid hba
      replace S1 := Lib.hid S1
      replace S2 := Lib.hid S2
      go_wp2_with fail
      refine wp_region_held_drew (S := fun w' => w'.cell? ⟨rb, ro + k * 2, none⟩ = some (S xn) ∧ w'.cell? ⟨rb, ro + k * 2 + 1, none⟩ = some (S xv)) (by kernel_rfl) ?_ (fun hHeld => ?_)
      · exact KC.out _ (hwd ▸ hbd.out)
      rw [hwd] at hHeld ⊢
      clear hwd
      refine wpAnyH_take (i := 0) (v := ?v0_1) rfl (by kernel_rfl) (by kernel_rfl) (by kernel_rfl) (fun _ _ _ h => h) (Or.inl ⟨by rfl, ?y0_1⟩) hHeld ?r0_1
      case y0_1 => (intro w hSw; (try dsimp only at hSw); go_split_ands; go_simp; try with_reducible rfl)
      try simp only [List.getElem_toArray, List.getElem_cons_succ, List.getElem_cons_zero, Act.put, List.setIfInBounds_toArray, List.set_cons_zero, List.set_cons_succ]
      refine wpAnyH_take (i := 1) (v := ?v1_2) rfl (by kernel_rfl) (by kernel_rfl) (by kernel_rfl) (fun _ _ _ h => h) (Or.inl ⟨by rfl, ?y1_2⟩) hHeld ?r1_2
      case y1_2 => (intro w hSw; (try dsimp only at hSw); go_split_ands; go_simp; try with_reducible rfl)
      try simp only [List.getElem_toArray, List.getElem_cons_succ, List.getElem_cons_zero, Act.put, List.setIfInBounds_toArray, List.set_cons_zero, List.set_cons_succ]
      refine wpAnyH_take (i := 2) (v := ?v2_3) rfl (by kernel_rfl) (by kernel_rfl) (by kernel_rfl) (fun _ _ _ h => h) (Or.inl ⟨by rfl, ?y2_3⟩) hHeld ?r2_3
      case y2_3 => (intro w hSw; (try dsimp only at hSw); go_split_ands; go_simp; try with_reducible rfl)
      try simp only [List.getElem_toArray, List.getElem_cons_succ, List.getElem_cons_zero, Act.put, List.setIfInBounds_toArray, List.set_cons_zero, List.set_cons_succ]
      refine wpAnyH_take (i := 3) (v := ?v3_4) rfl (by kernel_rfl) (by kernel_rfl) (by kernel_rfl) (fun _ _ _ h => h) (Or.inl ⟨by rfl, ?y3_4⟩) hHeld ?r3_4
      case y3_4 => (intro w hSw; (try dsimp only at hSw); go_split_ands; go_simp; try with_reducible rfl)
      try simp only [List.getElem_toArray, List.getElem_cons_succ, List.getElem_cons_zero, Act.put, List.setIfInBounds_toArray, List.set_cons_zero, List.set_cons_succ]
      refine wpAnyH_take (i := 4) (v := ?v4_5) rfl (by kernel_rfl) (by kernel_rfl) (by kernel_rfl) (fun _ _ _ h => h) (Or.inl ⟨by rfl, ?y4_5⟩) hHeld ?r4_5
      case y4_5 => (intro w hSw; (try dsimp only at hSw); go_split_ands; go_simp; try with_reducible rfl)
      try simp only [List.getElem_toArray, List.getElem_cons_succ, List.getElem_cons_zero, Act.put, List.setIfInBounds_toArray, List.set_cons_zero, List.set_cons_succ]
      refine wpAnyH_take (i := 5) (v := ?v5_6) rfl (by kernel_rfl) (by kernel_rfl) (by kernel_rfl) (fun _ _ _ h => h) (Or.inl ⟨by rfl, ?y5_6⟩) hHeld ?r5_6
      case y5_6 => (intro w hSw; (try dsimp only at hSw); go_split_ands; go_simp; try with_reducible rfl)
      try simp only [List.getElem_toArray, List.getElem_cons_succ, List.getElem_cons_zero, Act.put, List.setIfInBounds_toArray, List.set_cons_zero, List.set_cons_succ]
      refine wpAnyH_take (i := 7) (v := ?v7_7) rfl (by kernel_rfl) (by kernel_rfl) (by kernel_rfl) (fun _ _ _ h => h) (Or.inl ⟨by rfl, ?y7_7⟩) hHeld ?r7_7
      case y7_7 => (intro w hSw; (try dsimp only at hSw); go_split_ands; go_simp; try with_reducible rfl)
      try simp only [List.getElem_toArray, List.getElem_cons_succ, List.getElem_cons_zero, Act.put, List.setIfInBounds_toArray, List.set_cons_zero, List.set_cons_succ]
      refine wpAnyH_take (i := 8) (v := ?v8_8) rfl (by kernel_rfl) (by kernel_rfl) (by kernel_rfl) (fun _ _ _ h => h) (Or.inl ⟨by rfl, ?y8_8⟩) hHeld ?r8_8
      case y8_8 => (intro w hSw; (try dsimp only at hSw); go_split_ands; go_simp; try with_reducible rfl)
      try simp only [List.getElem_toArray, List.getElem_cons_succ, List.getElem_cons_zero, Act.put, List.setIfInBounds_toArray, List.set_cons_zero, List.set_cons_succ]
      refine wpAnyH_take (i := 9) (v := ?v9_9) rfl (by kernel_rfl) (by kernel_rfl) (by kernel_rfl) (fun _ _ _ h => h) (Or.inl ⟨by rfl, ?y9_9⟩) hHeld ?r9_9
      case y9_9 => (intro w hSw; (try dsimp only at hSw); go_split_ands; go_simp; try with_reducible rfl)
      try simp only [List.getElem_toArray, List.getElem_cons_succ, List.getElem_cons_zero, Act.put, List.setIfInBounds_toArray, List.set_cons_zero, List.set_cons_succ]
      refine wpAnyH_take (i := 10) (v := ?v10_10) rfl (by kernel_rfl) (by kernel_rfl) (by kernel_rfl) (fun _ _ _ h => h) (Or.inl ⟨by rfl, ?y10_10⟩) hHeld ?r10_10
      case y10_10 => (intro w hSw; (try dsimp only at hSw); go_split_ands; go_simp; try with_reducible rfl)
      try simp only [List.getElem_toArray, List.getElem_cons_succ, List.getElem_cons_zero, Act.put, List.setIfInBounds_toArray, List.set_cons_zero, List.set_cons_succ]
      refine wpAnyH_take (i := 11) (v := ?v11_11) rfl (by kernel_rfl) (by kernel_rfl) (by kernel_rfl) (fun _ _ _ h => h) (Or.inl ⟨by rfl, ?y11_11⟩) hHeld ?r11_11
      case y11_11 => (intro w hSw; (try dsimp only at hSw); go_split_ands; go_simp; try with_reducible rfl)
      try simp only [List.getElem_toArray, List.getElem_cons_succ, List.getElem_cons_zero, Act.put, List.setIfInBounds_toArray, List.set_cons_zero, List.set_cons_succ]
      refine wpAnyH_ready (rs := [6]) (by kernel_rfl) (by simp) ?_
      refine AllReadyH.cons rfl (fun K hK => ?_) AllReadyH.nil
      have hHeld' := hHeld
      try dsimp only at hHeld'
      go_split_ands
      go_simp
      refine S1.out.mono ?_
      rintro e w5 ⟨rfl, rfl⟩
      refine hK.out _ _ ?_ (fun hHeld => ?_)
      · exact (KC.out _ hbd.out)
      clear hK K
      try simp only [List.getElem_toArray, List.getElem_cons_succ, List.getElem_cons_zero, Act.put, List.setIfInBounds_toArray, List.set_cons_zero, List.set_cons_succ]
      refine wpAnyH_ready (rs := [12]) (by kernel_rfl) (by simp) ?_
      refine AllReadyH.cons rfl (fun K hK => ?_) AllReadyH.nil
      have hHeld' := hHeld
      try dsimp only at hHeld'
      go_split_ands
      go_simp
      refine S2.out.mono ?_
      rintro e w5 ⟨rfl, rfl⟩
      refine hK.out _ _ ?_ (fun hHeld => ?_)
      · exact (KC.out _ hbd.out)
      clear hK K
      try simp only [List.getElem_toArray, List.getElem_cons_succ, List.getElem_cons_zero, Act.put, List.setIfInBounds_toArray, List.set_cons_zero, List.set_cons_succ]
      refine wpAnyH_take (i := 13) (v := ?v13_12) rfl (by kernel_rfl) (by kernel_rfl) (by kernel_rfl) (fun _ _ _ h => h) (Or.inl ⟨by rfl, ?y13_12⟩) hHeld ?r13_12
      case y13_12 => (intro w hSw; (try dsimp only at hSw); go_split_ands; go_simp; try with_reducible rfl)
      try simp only [List.getElem_toArray, List.getElem_cons_succ, List.getElem_cons_zero, Act.put, List.setIfInBounds_toArray, List.set_cons_zero, List.set_cons_succ]
      refine wpAnyH_ready (rs := [14]) (by kernel_rfl) (by simp) ?_
      refine AllReadyH.cons rfl (fun K hK => ?_) AllReadyH.nil
      have hHeld' := hHeld
      try dsimp only at hHeld'
      go_split_ands
      go_simp
      refine hK.out _ _ ?_ (fun hHeld => ?_)
      · exact (KC.out _ hba.out)
      clear hK K
      try simp only [List.getElem_toArray, List.getElem_cons_succ, List.getElem_cons_zero, Act.put, List.setIfInBounds_toArray, List.set_cons_zero, List.set_cons_succ]
      refine wpAnyH_ready (rs := [15]) (by kernel_rfl) (by simp) ?_
      refine AllReadyH.cons rfl (fun K hK => ?_) AllReadyH.nil
      refine step_append_rec rfl (.tmp 24) (.tmp 38) 22 rfl wX.heap.size 25 iu (.agg #[S ByteArray.empty, S ByteArray.empty]) 2 32 Tryd.underlying22 hiu zu0 zu1 zu2 rfl (by decide) _ M.length (flatB hB M) (by first | rfl | simp [Act.eval, Act.put]) hown5.out #[S sn, S sv] _ rfl (by intro u hu; simp at hu; rcases hu with rfl | rfl <;> rfl) 1 (by first | rfl | simp [Act.eval, Act.put]) (by omega) (by omega) (by omega) ?_
      intro b' cap' w7 hown7 hgrow7 _
      have hb7 := hbd.out.grown hgrow7 (fun k hk => (hown5.out.lt k hk).1)
      clear hgrow7
      replace hown7 := Lib.hid hown7
      replace hb7 := Lib.hid hb7
      refine hK.out _ _ ?_ (fun hHeld => ?_)
      · exact (KC.out _ hb7.out)
      clear hK K
      try simp only [List.getElem_toArray, List.getElem_cons_succ, List.getElem_cons_zero, Act.put, List.setIfInBounds_toArray, List.set_cons_zero, List.set_cons_succ]
      refine wpAnyH_take (i := 16) (v := ?v16_13) rfl (by kernel_rfl) (by kernel_rfl) (by kernel_rfl) (fun _ _ _ h => h) (Or.inl ⟨by rfl, ?y16_13⟩) hHeld ?r16_13
      case y16_13 => (intro w hSw; (try dsimp only at hSw); go_split_ands; go_simp; try with_reducible rfl)
      try simp only [List.getElem_toArray, List.getElem_cons_succ, List.getElem_cons_zero, Act.put, List.setIfInBounds_toArray, List.set_cons_zero, List.set_cons_succ]
      refine wpAnyH_done (by kernel_rfl) ?_ _
      go_wp2_with fail
      go_roundw
      case rel => exact ⟨k + 1, M ++ [⟨sn, sv⟩], by omega, by omega, by first | rfl | go_num, (by rw [List.length_append, hMk.out]; rfl), fit_snoc hMf z1 z2, by unfold OwnB; rw [flatB_snoc, List.length_append]; exact hown7.out, hb7.out⟩
      case measure => simp [intOf] <;> omega
    · have hMl : M.length ≤ 10 := by omega
      have hM10 := hMl
      by_cases hk1 : k < R.length
      · have hk2 : ¬ k < 10 := fun h => hk ⟨hk1, h⟩
        have d1 : decide ((k : Int) < (R.length : Int)) = true := decide_eq_true (by omega)
        have d2 : decide ((k : Int) < 10) = false := decide_eq_false (by omega)
        have d3 : decide (k < R.length) = true := decide_eq_true hk1
        have d4 : decide (k < 10) = false := decide_eq_false hk2
        have hHF := heads_own hown
        have hbz := hbX.out.tr hbr
        have HM := Lib.hid (heads_mk z1 v1 wr (Rd.below hv1 hbz) hz1 hm1)
        have okA := ok_heads z1 (min z1.length 12)
        have hzz := hbr.size
        obtain ⟨A, hA⟩ : ∃ z_, (headsF z1 (min z1.length 12)) = z_ := ⟨_, rfl⟩
        rw [hA] at HM okA
        clear hA hown RC hk
        replace hHF := Lib.hid hHF
        replace hbz := Lib.hid hbz
        replace hbr := Lib.hid hbr
        go_wp2_with fail
        with_reducible refine (HM.out).mono ?_
        rintro e w1 ⟨va, rfl, hOA, hb1⟩
        obtain ⟨aa, ag, ac, rfl, ag1, ag2, ag3, agR⟩ := OwnB.row hOA (by decide)
        have hHA := heads_own hOA
        have lA := okA.len
        have wl : IntKind.i64.wrap ((A.length : Int) + 1) = (A.length : Int) + 1 := by rw [IntKind.wrap_i64]; omega
        have A3 := Lib.hid (around_any a3 ((A.length : Int) + 1) w1 l3 u3 (by omega) (by omega))
        have r0 := around_lo a3 ((A.length : Int) + 1) (by omega); have r1 := around_hi a3 ((A.length : Int) + 1) (by omega)
        obtain ⟨z, hz⟩ : ∃ z_, (around a3 ((A.length : Int) + 1)) = z_ := ⟨_, rfl⟩
        rw [hz] at A3 r0 r1
        obtain ⟨j, rfl⟩ : ∃ j : Nat, z = j := ⟨z.toNat, by omega⟩
        clear hz HM hOA agR
        have hjA : j ≤ A.length := by omega
        have FT : Feed w1 (.slice aa j ac) j 2 (flatB hB (A.take j)) := by
          have := heads_feed (head_take hHA j hjA)
          rw [List.length_take, Nat.min_eq_left hjA] at this
          exact this
        have FD : ∀ w', Bl w1 w' → Feed w' (.slice (if ac = j then aa else aa.map (fun x => x.add (j * 2))) (A.length - j) (ac - j)) (A.length - j) 2 (flatB hB (A.drop j)) := by
          intro w' hb
          have := heads_feed (head_drop (hHA.bl hb) j hjA)
          rw [List.length_drop] at this
          exact this
        obtain ⟨adp, hadp⟩ : ∃ x, (if ac = j then aa else Option.map (fun x => x.add (j * 2)) aa) = x := ⟨_, rfl⟩
        rw [hadp] at FD
        have hown0 := Lib.hid (World.ownsRow_nil w1 w1.heap.size 25 2)
        replace FT := Lib.hid FT
        replace FD := Lib.hid FD
        replace hHA := Lib.hid hHA
        replace hb1 := Lib.hid hb1
        go_wp2_with fail
        with_reducible refine (A3.out).mono ?_
        rintro e w' ⟨rfl, rfl⟩
        clear A3
        go_wp2_with (at_builtin; refine wpList_append_feed rfl _ _ 22 rfl w1.heap.size 25 iu (.agg #[S ByteArray.empty, S ByteArray.empty]) 2 32 Tryd.underlying22 hiu zu0 zu1 zu2 rfl (by decide) _ 0 [] (by first | rfl | simp [Act.eval, Act.put]) hown0.out _ j (flatB hB (A.take j)) FT.out (flat_one (A.take j)) (by first | rfl | simp [Act.eval, Act.put]) (by omega) (by omega) (Nat.le_refl _) ?_)
        intro v5 w5 hown5 hgrow5
        have hb5 := (Bl.rfl' w1).grown hgrow5 (fun k hk => (hown0.out.lt k hk).1)
        replace hown5 : OwnB hB 2 25 w5 w1.heap.size v5 (A.take j) := by
          unfold OwnB
          rw [List.length_take, Nat.min_eq_left hjA]
          first | exact hown5 | (rw [Nat.zero_add, List.nil_append] at hown5; exact hown5)
        have hownd := OwnB.bl hown5 (Bl.rfl' w5).dr
        have hbd := hb5.dr
        have hbX2 := (hbr.out.tr hb1.out).tr hbd
        have KX := Lib.hid (fun w' (hb : Bl wX w') => (⟨cell_at (blk_bl hXD.out hb) 0, cell_at (blk_bl hXD.out hb) 1⟩ : w'.cell? ⟨w.heap.size, 0, none⟩ = some (S hn) ∧ w'.cell? ⟨w.heap.size, 1, none⟩ = some (S hu)))
        obtain ⟨wd, hwd⟩ : ∃ x, w5.drew = x := ⟨_, rfl⟩
        have S1 := SH.out hn w5.drew ln
        have S2 := SH.out hu w5.drew lu
        have z1 := shortS_size hn 70
        have z2 := shortS_size hu 70
        obtain ⟨sn, hsn⟩ : ∃ z_, (shortS hn 70) = z_ := ⟨_, rfl⟩
        rw [hsn] at S1 z1
        obtain ⟨sv, hsv⟩ : ∃ z_, (shortS hu 70) = z_ := ⟨_, rfl⟩
        rw [hsv] at S2 z2
        have hfT : Fit (A.take j ++ [⟨sn, sv⟩]) := fit_snoc (fun x hx => by have := may_fit (okA.may x (List.mem_of_mem_take hx)); omega) z1 z2
        obtain ⟨oa, og, ocap, rfl, og1, og2, og3, ogR⟩ := OwnB.row hownd (by decide)
        have hlt := List.length_take (i := j) (l := A)
        rw [Nat.min_eq_left hjA] at hlt
        rw [hlt] at hownd ⊢
        replace hownd : w5.drew.ownsRow w1.heap.size 25 2 (.slice oa j ocap) j (flatB hB (A.take j)) := by
          have := hownd; unfold OwnB at this; rw [hlt] at this; exact this
        have hsz := hbd.size
        rw [hwd] at hownd hbd S1 S2 hsz hbX2
        have hba := hbX2.al (.cells #[S sn, S sv] 25)
        clear hown0 ogR hsn hsv hgrow5 hown5 FT
        replace hownd := Lib.hid hownd
        replace hbd := Lib.hid hbd
        replace hba := Lib.hid hba
        replace S1 := Lib.hid S1
        replace S2 := Lib.hid S2
        replace hbX2 := Lib.hid hbX2
        go_wp2_with fail
        refine wp_region_held_drew (S := fun w' => w'.cell? ⟨w.heap.size, 0, none⟩ = some (S hn) ∧ w'.cell? ⟨w.heap.size, 1, none⟩ = some (S hu)) (by kernel_rfl) ?_ (fun hHeld => ?_)
        · exact KX.out _ (hwd ▸ hbX2.out)
        rw [hwd] at hHeld ⊢
        clear hwd
        refine wpAnyH_take (i := 0) (v := ?v0_14) rfl (by kernel_rfl) (by kernel_rfl) (by kernel_rfl) (fun _ _ _ h => h) (Or.inl ⟨by rfl, ?y0_14⟩) hHeld ?r0_14
        case y0_14 => (intro w hSw; (try dsimp only at hSw); go_split_ands; go_simp; try with_reducible rfl)
        try simp only [List.getElem_toArray, List.getElem_cons_succ, List.getElem_cons_zero, Act.put, List.setIfInBounds_toArray, List.set_cons_zero, List.set_cons_succ]
        refine wpAnyH_take (i := 1) (v := ?v1_15) rfl (by kernel_rfl) (by kernel_rfl) (by kernel_rfl) (fun _ _ _ h => h) (Or.inl ⟨by rfl, ?y1_15⟩) hHeld ?r1_15
        case y1_15 => (intro w hSw; (try dsimp only at hSw); go_split_ands; go_simp; try with_reducible rfl)
        try simp only [List.getElem_toArray, List.getElem_cons_succ, List.getElem_cons_zero, Act.put, List.setIfInBounds_toArray, List.set_cons_zero, List.set_cons_succ]
        refine wpAnyH_take (i := 2) (v := ?v2_16) rfl (by kernel_rfl) (by kernel_rfl) (by kernel_rfl) (fun _ _ _ h => h) (Or.inl ⟨by rfl, ?y2_16⟩) hHeld ?r2_16
        case y2_16 => (intro w hSw; (try dsimp only at hSw); go_split_ands; go_simp; try with_reducible rfl)
        try simp only [List.getElem_toArray, List.getElem_cons_succ, List.getElem_cons_zero, Act.put, List.setIfInBounds_toArray, List.set_cons_zero, List.set_cons_succ]
        refine wpAnyH_take (i := 4) (v := ?v4_17) rfl (by kernel_rfl) (by kernel_rfl) (by kernel_rfl) (fun _ _ _ h => h) (Or.inl ⟨by rfl, ?y4_17⟩) hHeld ?r4_17
        case y4_17 => (intro w hSw; (try dsimp only at hSw); go_split_ands; go_simp; try with_reducible rfl)
        try simp only [List.getElem_toArray, List.getElem_cons_succ, List.getElem_cons_zero, Act.put, List.setIfInBounds_toArray, List.set_cons_zero, List.set_cons_succ]
        refine wpAnyH_take (i := 5) (v := ?v5_18) rfl (by kernel_rfl) (by kernel_rfl) (by kernel_rfl) (fun _ _ _ h => h) (Or.inl ⟨by rfl, ?y5_18⟩) hHeld ?r5_18
        case y5_18 => (intro w hSw; (try dsimp only at hSw); go_split_ands; go_simp; try with_reducible rfl)
        try simp only [List.getElem_toArray, List.getElem_cons_succ, List.getElem_cons_zero, Act.put, List.setIfInBounds_toArray, List.set_cons_zero, List.set_cons_succ]
        refine wpAnyH_ready (rs := [3]) (by kernel_rfl) (by simp) ?_
        refine AllReadyH.cons rfl (fun K hK => ?_) AllReadyH.nil
        have hHeld' := hHeld
        try dsimp only at hHeld'
        go_split_ands
        go_simp
        refine S1.out.mono ?_
        rintro e w6 ⟨rfl, rfl⟩
        refine hK.out _ _ ?_ (fun hHeld => ?_)
        · exact (KX.out _ hbX2.out)
        clear hK K
        try simp only [List.getElem_toArray, List.getElem_cons_succ, List.getElem_cons_zero, Act.put, List.setIfInBounds_toArray, List.set_cons_zero, List.set_cons_succ]
        refine wpAnyH_ready (rs := [6]) (by kernel_rfl) (by simp) ?_
        refine AllReadyH.cons rfl (fun K hK => ?_) AllReadyH.nil
        have hHeld' := hHeld
        try dsimp only at hHeld'
        go_split_ands
        go_simp
        refine S2.out.mono ?_
        rintro e w6 ⟨rfl, rfl⟩
        refine hK.out _ _ ?_ (fun hHeld => ?_)
        · exact (KX.out _ hbX2.out)
        clear hK K
        try simp only [List.getElem_toArray, List.getElem_cons_succ, List.getElem_cons_zero, Act.put, List.setIfInBounds_toArray, List.set_cons_zero, List.set_cons_succ]
        refine wpAnyH_take (i := 7) (v := ?v7_19) rfl (by kernel_rfl) (by kernel_rfl) (by kernel_rfl) (fun _ _ _ h => h) (Or.inl ⟨by rfl, ?y7_19⟩) hHeld ?r7_19
        case y7_19 => (intro w hSw; (try dsimp only at hSw); go_split_ands; go_simp; try with_reducible rfl)
        try simp only [List.getElem_toArray, List.getElem_cons_succ, List.getElem_cons_zero, Act.put, List.setIfInBounds_toArray, List.set_cons_zero, List.set_cons_succ]
        refine wpAnyH_ready (rs := [8]) (by kernel_rfl) (by simp) ?_
        refine AllReadyH.cons rfl (fun K hK => ?_) AllReadyH.nil
        have hHeld' := hHeld
        try dsimp only at hHeld'
        go_split_ands
        go_simp
        refine hK.out _ _ ?_ (fun hHeld => ?_)
        · exact (KX.out _ hba.out)
        clear hK K
        try simp only [List.getElem_toArray, List.getElem_cons_succ, List.getElem_cons_zero, Act.put, List.setIfInBounds_toArray, List.set_cons_zero, List.set_cons_succ]
        refine wpAnyH_ready (rs := [9]) (by kernel_rfl) (by simp) ?_
        refine AllReadyH.cons rfl (fun K hK => ?_) AllReadyH.nil
        refine step_append_rec rfl (.tmp 52) (.tmp 60) 22 rfl w1.heap.size 25 iu (.agg #[S ByteArray.empty, S ByteArray.empty]) 2 32 Tryd.underlying22 hiu zu0 zu1 zu2 rfl (by decide) _ j (flatB hB (A.take j)) (by first | rfl | simp [Act.eval, Act.put]) hownd.out #[S sn, S sv] _ rfl (by intro u hu; simp at hu; rcases hu with rfl | rfl <;> rfl) 1 (by first | rfl | simp [Act.eval, Act.put]) (by omega) (by omega) (by omega) ?_
        intro b' cap' w7 hown7 hgrow7 _
        have hb7 := hbd.out.grown hgrow7 (fun k hk => (hownd.out.lt k hk).1)
        replace hown7 : w7.ownsRow w1.heap.size 25 2 (.slice (some ⟨b', 0, none⟩) (j + 1) cap') (j + 1) (flatB hB (A.take j ++ [⟨sn, sv⟩])) := by rw [flatB_snoc]; exact hown7
        clear hgrow7 hownd hbd hba S1 S2 hbX2
        refine hK.out _ _ ?_ (fun hHeld => ?_)
        · exact (KX.out _ ((hbr.out.tr hb1.out).tr hb7))
        clear hK K
        try simp only [List.getElem_toArray, List.getElem_cons_succ, List.getElem_cons_zero, Act.put, List.setIfInBounds_toArray, List.set_cons_zero, List.set_cons_succ]
        refine wpAnyH_take (i := 10) (v := ?v10_20) rfl (by kernel_rfl) (by kernel_rfl) (by kernel_rfl) (fun _ _ _ h => h) (Or.inl ⟨by rfl, ?y10_20⟩) hHeld ?r10_20
        case y10_20 => (intro w hSw; (try dsimp only at hSw); go_split_ands; go_simp; try with_reducible rfl)
        try simp only [List.getElem_toArray, List.getElem_cons_succ, List.getElem_cons_zero, Act.put, List.setIfInBounds_toArray, List.set_cons_zero, List.set_cons_succ]
        refine wpAnyH_done (by kernel_rfl) ?_ _
        have hs7 := hb7.size
        replace hown7 := Lib.hid hown7
        replace hb7 := Lib.hid hb7
        go_wp2_with (at_builtin; refine wpList_append_feed rfl _ _ 22 rfl w1.heap.size 25 iu (.agg #[S ByteArray.empty, S ByteArray.empty]) 2 32 Tryd.underlying22 hiu zu0 zu1 zu2 rfl (by decide) _ (j + 1) (flatB hB (A.take j ++ [⟨sn, sv⟩])) (by first | rfl | simp [Act.eval, Act.put]) hown7.out _ (A.length - j) (flatB hB (A.drop j)) (FD.out _ hb7.out) (flat_one (A.drop j)) (by first | rfl | simp [Act.eval, Act.put]) (by omega) (by omega) hs7 ?_)
        intro v9 w9 hown9 hgrow9
        clear hadp
        have hb9 := hb7.out.grown hgrow9 (fun k hk => (hown7.out.lt k hk).1)
        clear hgrow9
        obtain ⟨O, hO⟩ : ∃ O : List Hd, (A.take j ++ [⟨sn, sv⟩]) ++ A.drop j = O := ⟨_, rfl⟩
        have hOl : O.length = j + 1 + (A.length - j) := by rw [← hO]; simp; omega
        replace hown9 : OwnB hB 2 25 w9 w1.heap.size v9 O := by
          unfold OwnB
          rw [hOl, ← hO, flatB_app]; exact hown9
        have hHO := heads_own hown9
        have hfO : Fit O := by
          intro x hx
          rw [← hO] at hx
          rcases List.mem_append.1 hx with hx | hx
          · exact hfT x hx
          · have := may_fit (okA.may x (List.mem_of_mem_drop hx)); omega
        have hHA9 := hHA.out.bl hb9
        have hHF9 := (hHF.out.bl hb1.out).bl hb9
        have hbF := ((hbz.out.tr hb1.out).tr hb9)
        have CF := Lib.hid (fun w' (hb : Bl w9 w') => check_any _ M w' (hHF9.bl hb) (by omega) hMf)
        have RF := Lib.hid (fun w' (hb : Bl w9 w') => rcheck_any _ M w' (hHF9.bl hb) (by omega) hMf)
        have CO := Lib.hid (fun w' (hb : Bl w9 w') => check_any _ O w' (hHO.bl hb) (by omega) hfO)
        have RO := Lib.hid (fun w' (hb : Bl w9 w') => rcheck_any _ O w' (hHO.bl hb) (by omega) hfO)
        have CA := Lib.hid (fun w' (hb : Bl w9 w') => check_any _ A w' (hHA9.bl hb) (by omega) okA.fit)
        rw [okA.check] at CA
        obtain ⟨K1, hK1⟩ : ∃ z_, (checkF M) = z_ := ⟨_, rfl⟩
        simp only [hK1] at CF RF
        obtain ⟨K2, hK2⟩ : ∃ z_, (checkF O) = z_ := ⟨_, rfl⟩
        simp only [hK2] at CO RO
        have hk1e : (K1 == K1) = true := by simp
        have hk2e : (K2 == K2) = true := by simp
        have hq2 := Bl.rfl' w9
        clear hK1 hK2 hO hOl hown9 hHO hfO hHA9 hHF9 hHA hHF hown7 hb7 FD hfT okA
        replace hbF := Lib.hid hbF
        replace hq2 := Lib.hid hq2
        go_wp2_with fail
        with_reducible refine (CF.out _ hq2.out).mono ?_
        rintro e wa ⟨rfl, hn'⟩
        have hz1 := hbF.out.tr hn'
        have hq21 := hq2.out.tr hn'
        clear hbF hq2 hn'
        have hbF := Lib.hid hz1; have hq2 := Lib.hid hq21
        clear hz1 hq21
        go_wp2_with fail
        with_reducible refine (RF.out _ hq2.out).mono ?_
        rintro e wb ⟨rfl, hn'⟩
        have hz1 := hbF.out.tr hn'
        have hq21 := hq2.out.tr hn'
        clear hbF hq2 hn'
        have hbF := Lib.hid hz1; have hq2 := Lib.hid hq21
        clear hz1 hq21
        go_wp2_with fail
        with_reducible refine (CO.out _ hq2.out).mono ?_
        rintro e wc ⟨rfl, hn'⟩
        have hz1 := hbF.out.tr hn'
        have hq21 := hq2.out.tr hn'
        clear hbF hq2 hn'
        have hbF := Lib.hid hz1; have hq2 := Lib.hid hq21
        clear hz1 hq21
        go_wp2_with fail
        with_reducible refine (RO.out _ hq2.out).mono ?_
        rintro e wd' ⟨rfl, hn'⟩
        have hz1 := hbF.out.tr hn'
        have hq21 := hq2.out.tr hn'
        clear hbF hq2 hn'
        have hbF := Lib.hid hz1; have hq2 := Lib.hid hq21
        clear hz1 hq21
        go_wp2_with fail
        with_reducible refine (CA.out _ hq2.out).mono ?_
        rintro e we ⟨rfl, hn'⟩
        have hz1 := hbF.out.tr hn'
        have hq21 := hq2.out.tr hn'
        clear hbF hq2 hn'
        have hbF := Lib.hid hz1; have hq2 := Lib.hid hq21
        clear hz1 hq21
        go_wp2_with fail
        with_reducible refine (LV.out _).mono ?_
        rintro e wl ⟨rfl, hn'⟩
        go_wp2_with fail
        go_ret
        exact ⟨rfl, hbF.out.tr hn'⟩
      · have d1 : decide ((k : Int) < (R.length : Int)) = false := decide_eq_false (by omega)
        have d3 : decide (k < R.length) = false := decide_eq_false hk1
        have hHF := heads_own hown
        have hbz := hbX.out.tr hbr
        have HM := Lib.hid (heads_mk z1 v1 wr (Rd.below hv1 hbz) hz1 hm1)
        have okA := ok_heads z1 (min z1.length 12)
        have hzz := hbr.size
        obtain ⟨A, hA⟩ : ∃ z_, (headsF z1 (min z1.length 12)) = z_ := ⟨_, rfl⟩
        rw [hA] at HM okA
        clear hA hown RC hk
        replace hHF := Lib.hid hHF
        replace hbz := Lib.hid hbz
        replace hbr := Lib.hid hbr
        go_wp2_with fail
        with_reducible refine (HM.out).mono ?_
        rintro e w1 ⟨va, rfl, hOA, hb1⟩
        obtain ⟨aa, ag, ac, rfl, ag1, ag2, ag3, agR⟩ := OwnB.row hOA (by decide)
        have hHA := heads_own hOA
        have lA := okA.len
        have wl : IntKind.i64.wrap ((A.length : Int) + 1) = (A.length : Int) + 1 := by rw [IntKind.wrap_i64]; omega
        have A3 := Lib.hid (around_any a3 ((A.length : Int) + 1) w1 l3 u3 (by omega) (by omega))
        have r0 := around_lo a3 ((A.length : Int) + 1) (by omega); have r1 := around_hi a3 ((A.length : Int) + 1) (by omega)
        obtain ⟨z, hz⟩ : ∃ z_, (around a3 ((A.length : Int) + 1)) = z_ := ⟨_, rfl⟩
        rw [hz] at A3 r0 r1
        obtain ⟨j, rfl⟩ : ∃ j : Nat, z = j := ⟨z.toNat, by omega⟩
        clear hz HM hOA agR
        have hjA : j ≤ A.length := by omega
        have FT : Feed w1 (.slice aa j ac) j 2 (flatB hB (A.take j)) := by
          have := heads_feed (head_take hHA j hjA)
          rw [List.length_take, Nat.min_eq_left hjA] at this
          exact this
        have FD : ∀ w', Bl w1 w' → Feed w' (.slice (if ac = j then aa else aa.map (fun x => x.add (j * 2))) (A.length - j) (ac - j)) (A.length - j) 2 (flatB hB (A.drop j)) := by
          intro w' hb
          have := heads_feed (head_drop (hHA.bl hb) j hjA)
          rw [List.length_drop] at this
          exact this
        obtain ⟨adp, hadp⟩ : ∃ x, (if ac = j then aa else Option.map (fun x => x.add (j * 2)) aa) = x := ⟨_, rfl⟩
        rw [hadp] at FD
        have hown0 := Lib.hid (World.ownsRow_nil w1 w1.heap.size 25 2)
        replace FT := Lib.hid FT
        replace FD := Lib.hid FD
        replace hHA := Lib.hid hHA
        replace hb1 := Lib.hid hb1
        go_wp2_with fail
        with_reducible refine (A3.out).mono ?_
        rintro e w' ⟨rfl, rfl⟩
        clear A3
        go_wp2_with (at_builtin; refine wpList_append_feed rfl _ _ 22 rfl w1.heap.size 25 iu (.agg #[S ByteArray.empty, S ByteArray.empty]) 2 32 Tryd.underlying22 hiu zu0 zu1 zu2 rfl (by decide) _ 0 [] (by first | rfl | simp [Act.eval, Act.put]) hown0.out _ j (flatB hB (A.take j)) FT.out (flat_one (A.take j)) (by first | rfl | simp [Act.eval, Act.put]) (by omega) (by omega) (Nat.le_refl _) ?_)
        intro v5 w5 hown5 hgrow5
        have hb5 := (Bl.rfl' w1).grown hgrow5 (fun k hk => (hown0.out.lt k hk).1)
        replace hown5 : OwnB hB 2 25 w5 w1.heap.size v5 (A.take j) := by
          unfold OwnB
          rw [List.length_take, Nat.min_eq_left hjA]
          first | exact hown5 | (rw [Nat.zero_add, List.nil_append] at hown5; exact hown5)
        have hownd := OwnB.bl hown5 (Bl.rfl' w5).dr
        have hbd := hb5.dr
        have hbX2 := (hbr.out.tr hb1.out).tr hbd
        have KX := Lib.hid (fun w' (hb : Bl wX w') => (⟨cell_at (blk_bl hXD.out hb) 0, cell_at (blk_bl hXD.out hb) 1⟩ : w'.cell? ⟨w.heap.size, 0, none⟩ = some (S hn) ∧ w'.cell? ⟨w.heap.size, 1, none⟩ = some (S hu)))
        obtain ⟨wd, hwd⟩ : ∃ x, w5.drew = x := ⟨_, rfl⟩
        have S1 := SH.out hn w5.drew ln
        have S2 := SH.out hu w5.drew lu
        have z1 := shortS_size hn 70
        have z2 := shortS_size hu 70
        obtain ⟨sn, hsn⟩ : ∃ z_, (shortS hn 70) = z_ := ⟨_, rfl⟩
        rw [hsn] at S1 z1
        obtain ⟨sv, hsv⟩ : ∃ z_, (shortS hu 70) = z_ := ⟨_, rfl⟩
        rw [hsv] at S2 z2
        have hfT : Fit (A.take j ++ [⟨sn, sv⟩]) := fit_snoc (fun x hx => by have := may_fit (okA.may x (List.mem_of_mem_take hx)); omega) z1 z2
        obtain ⟨oa, og, ocap, rfl, og1, og2, og3, ogR⟩ := OwnB.row hownd (by decide)
        have hlt := List.length_take (i := j) (l := A)
        rw [Nat.min_eq_left hjA] at hlt
        rw [hlt] at hownd ⊢
        replace hownd : w5.drew.ownsRow w1.heap.size 25 2 (.slice oa j ocap) j (flatB hB (A.take j)) := by
          have := hownd; unfold OwnB at this; rw [hlt] at this; exact this
        have hsz := hbd.size
        rw [hwd] at hownd hbd S1 S2 hsz hbX2
        have hba := hbX2.al (.cells #[S sn, S sv] 25)
        clear hown0 ogR hsn hsv hgrow5 hown5 FT
        replace hownd := Lib.hid hownd
        replace hbd := Lib.hid hbd
        replace hba := Lib.hid hba
        replace S1 := Lib.hid S1
        replace S2 := Lib.hid S2
        replace hbX2 := Lib.hid hbX2
        go_wp2_with fail
        refine wp_region_held_drew (S := fun w' => w'.cell? ⟨w.heap.size, 0, none⟩ = some (S hn) ∧ w'.cell? ⟨w.heap.size, 1, none⟩ = some (S hu)) (by kernel_rfl) ?_ (fun hHeld => ?_)
        · exact KX.out _ (hwd ▸ hbX2.out)
        rw [hwd] at hHeld ⊢
        clear hwd
        refine wpAnyH_take (i := 0) (v := ?v0_21) rfl (by kernel_rfl) (by kernel_rfl) (by kernel_rfl) (fun _ _ _ h => h) (Or.inl ⟨by rfl, ?y0_21⟩) hHeld ?r0_21
        case y0_21 => (intro w hSw; (try dsimp only at hSw); go_split_ands; go_simp; try with_reducible rfl)
        try simp only [List.getElem_toArray, List.getElem_cons_succ, List.getElem_cons_zero, Act.put, List.setIfInBounds_toArray, List.set_cons_zero, List.set_cons_succ]
        refine wpAnyH_take (i := 1) (v := ?v1_22) rfl (by kernel_rfl) (by kernel_rfl) (by kernel_rfl) (fun _ _ _ h => h) (Or.inl ⟨by rfl, ?y1_22⟩) hHeld ?r1_22
        case y1_22 => (intro w hSw; (try dsimp only at hSw); go_split_ands; go_simp; try with_reducible rfl)
        try simp only [List.getElem_toArray, List.getElem_cons_succ, List.getElem_cons_zero, Act.put, List.setIfInBounds_toArray, List.set_cons_zero, List.set_cons_succ]
        refine wpAnyH_take (i := 2) (v := ?v2_23) rfl (by kernel_rfl) (by kernel_rfl) (by kernel_rfl) (fun _ _ _ h => h) (Or.inl ⟨by rfl, ?y2_23⟩) hHeld ?r2_23
        case y2_23 => (intro w hSw; (try dsimp only at hSw); go_split_ands; go_simp; try with_reducible rfl)
        try simp only [List.getElem_toArray, List.getElem_cons_succ, List.getElem_cons_zero, Act.put, List.setIfInBounds_toArray, List.set_cons_zero, List.set_cons_succ]
        refine wpAnyH_take (i := 4) (v := ?v4_24) rfl (by kernel_rfl) (by kernel_rfl) (by kernel_rfl) (fun _ _ _ h => h) (Or.inl ⟨by rfl, ?y4_24⟩) hHeld ?r4_24
        case y4_24 => (intro w hSw; (try dsimp only at hSw); go_split_ands; go_simp; try with_reducible rfl)
        try simp only [List.getElem_toArray, List.getElem_cons_succ, List.getElem_cons_zero, Act.put, List.setIfInBounds_toArray, List.set_cons_zero, List.set_cons_succ]
        refine wpAnyH_take (i := 5) (v := ?v5_25) rfl (by kernel_rfl) (by kernel_rfl) (by kernel_rfl) (fun _ _ _ h => h) (Or.inl ⟨by rfl, ?y5_25⟩) hHeld ?r5_25
        case y5_25 => (intro w hSw; (try dsimp only at hSw); go_split_ands; go_simp; try with_reducible rfl)
        try simp only [List.getElem_toArray, List.getElem_cons_succ, List.getElem_cons_zero, Act.put, List.setIfInBounds_toArray, List.set_cons_zero, List.set_cons_succ]
        refine wpAnyH_ready (rs := [3]) (by kernel_rfl) (by simp) ?_
        refine AllReadyH.cons rfl (fun K hK => ?_) AllReadyH.nil
        have hHeld' := hHeld
        try dsimp only at hHeld'
        go_split_ands
        go_simp
        refine S1.out.mono ?_
        rintro e w6 ⟨rfl, rfl⟩
        refine hK.out _ _ ?_ (fun hHeld => ?_)
        · exact (KX.out _ hbX2.out)
        clear hK K
        try simp only [List.getElem_toArray, List.getElem_cons_succ, List.getElem_cons_zero, Act.put, List.setIfInBounds_toArray, List.set_cons_zero, List.set_cons_succ]
        refine wpAnyH_ready (rs := [6]) (by kernel_rfl) (by simp) ?_
        refine AllReadyH.cons rfl (fun K hK => ?_) AllReadyH.nil
        have hHeld' := hHeld
        try dsimp only at hHeld'
        go_split_ands
        go_simp
        refine S2.out.mono ?_
        rintro e w6 ⟨rfl, rfl⟩
        refine hK.out _ _ ?_ (fun hHeld => ?_)
        · exact (KX.out _ hbX2.out)
        clear hK K
        try simp only [List.getElem_toArray, List.getElem_cons_succ, List.getElem_cons_zero, Act.put, List.setIfInBounds_toArray, List.set_cons_zero, List.set_cons_succ]
        refine wpAnyH_take (i := 7) (v := ?v7_26) rfl (by kernel_rfl) (by kernel_rfl) (by kernel_rfl) (fun _ _ _ h => h) (Or.inl ⟨by rfl, ?y7_26⟩) hHeld ?r7_26
        case y7_26 => (intro w hSw; (try dsimp only at hSw); go_split_ands; go_simp; try with_reducible rfl)
        try simp only [List.getElem_toArray, List.getElem_cons_succ, List.getElem_cons_zero, Act.put, List.setIfInBounds_toArray, List.set_cons_zero, List.set_cons_succ]
        refine wpAnyH_ready (rs := [8]) (by kernel_rfl) (by simp) ?_
        refine AllReadyH.cons rfl (fun K hK => ?_) AllReadyH.nil
        have hHeld' := hHeld
        try dsimp only at hHeld'
        go_split_ands
        go_simp
        refine hK.out _ _ ?_ (fun hHeld => ?_)
        · exact (KX.out _ hba.out)
        clear hK K
        try simp only [List.getElem_toArray, List.getElem_cons_succ, List.getElem_cons_zero, Act.put, List.setIfInBounds_toArray, List.set_cons_zero, List.set_cons_succ]
        refine wpAnyH_ready (rs := [9]) (by kernel_rfl) (by simp) ?_
        refine AllReadyH.cons rfl (fun K hK => ?_) AllReadyH.nil
        refine step_append_rec rfl (.tmp 52) (.tmp 60) 22 rfl w1.heap.size 25 iu (.agg #[S ByteArray.empty, S ByteArray.empty]) 2 32 Tryd.underlying22 hiu zu0 zu1 zu2 rfl (by decide) _ j (flatB hB (A.take j)) (by first | rfl | simp [Act.eval, Act.put]) hownd.out #[S sn, S sv] _ rfl (by intro u hu; simp at hu; rcases hu with rfl | rfl <;> rfl) 1 (by first | rfl | simp [Act.eval, Act.put]) (by omega) (by omega) (by omega) ?_
        intro b' cap' w7 hown7 hgrow7 _
        have hb7 := hbd.out.grown hgrow7 (fun k hk => (hownd.out.lt k hk).1)
        replace hown7 : w7.ownsRow w1.heap.size 25 2 (.slice (some ⟨b', 0, none⟩) (j + 1) cap') (j + 1) (flatB hB (A.take j ++ [⟨sn, sv⟩])) := by rw [flatB_snoc]; exact hown7
        clear hgrow7 hownd hbd hba S1 S2 hbX2
        refine hK.out _ _ ?_ (fun hHeld => ?_)
        · exact (KX.out _ ((hbr.out.tr hb1.out).tr hb7))
        clear hK K
        try simp only [List.getElem_toArray, List.getElem_cons_succ, List.getElem_cons_zero, Act.put, List.setIfInBounds_toArray, List.set_cons_zero, List.set_cons_succ]
        refine wpAnyH_take (i := 10) (v := ?v10_27) rfl (by kernel_rfl) (by kernel_rfl) (by kernel_rfl) (fun _ _ _ h => h) (Or.inl ⟨by rfl, ?y10_27⟩) hHeld ?r10_27
        case y10_27 => (intro w hSw; (try dsimp only at hSw); go_split_ands; go_simp; try with_reducible rfl)
        try simp only [List.getElem_toArray, List.getElem_cons_succ, List.getElem_cons_zero, Act.put, List.setIfInBounds_toArray, List.set_cons_zero, List.set_cons_succ]
        refine wpAnyH_done (by kernel_rfl) ?_ _
        have hs7 := hb7.size
        replace hown7 := Lib.hid hown7
        replace hb7 := Lib.hid hb7
        go_wp2_with (at_builtin; refine wpList_append_feed rfl _ _ 22 rfl w1.heap.size 25 iu (.agg #[S ByteArray.empty, S ByteArray.empty]) 2 32 Tryd.underlying22 hiu zu0 zu1 zu2 rfl (by decide) _ (j + 1) (flatB hB (A.take j ++ [⟨sn, sv⟩])) (by first | rfl | simp [Act.eval, Act.put]) hown7.out _ (A.length - j) (flatB hB (A.drop j)) (FD.out _ hb7.out) (flat_one (A.drop j)) (by first | rfl | simp [Act.eval, Act.put]) (by omega) (by omega) hs7 ?_)
        intro v9 w9 hown9 hgrow9
        clear hadp
        have hb9 := hb7.out.grown hgrow9 (fun k hk => (hown7.out.lt k hk).1)
        clear hgrow9
        obtain ⟨O, hO⟩ : ∃ O : List Hd, (A.take j ++ [⟨sn, sv⟩]) ++ A.drop j = O := ⟨_, rfl⟩
        have hOl : O.length = j + 1 + (A.length - j) := by rw [← hO]; simp; omega
        replace hown9 : OwnB hB 2 25 w9 w1.heap.size v9 O := by
          unfold OwnB
          rw [hOl, ← hO, flatB_app]; exact hown9
        have hHO := heads_own hown9
        have hfO : Fit O := by
          intro x hx
          rw [← hO] at hx
          rcases List.mem_append.1 hx with hx | hx
          · exact hfT x hx
          · have := may_fit (okA.may x (List.mem_of_mem_drop hx)); omega
        have hHA9 := hHA.out.bl hb9
        have hHF9 := (hHF.out.bl hb1.out).bl hb9
        have hbF := ((hbz.out.tr hb1.out).tr hb9)
        have CF := Lib.hid (fun w' (hb : Bl w9 w') => check_any _ M w' (hHF9.bl hb) (by omega) hMf)
        have RF := Lib.hid (fun w' (hb : Bl w9 w') => rcheck_any _ M w' (hHF9.bl hb) (by omega) hMf)
        have CO := Lib.hid (fun w' (hb : Bl w9 w') => check_any _ O w' (hHO.bl hb) (by omega) hfO)
        have RO := Lib.hid (fun w' (hb : Bl w9 w') => rcheck_any _ O w' (hHO.bl hb) (by omega) hfO)
        have CA := Lib.hid (fun w' (hb : Bl w9 w') => check_any _ A w' (hHA9.bl hb) (by omega) okA.fit)
        rw [okA.check] at CA
        obtain ⟨K1, hK1⟩ : ∃ z_, (checkF M) = z_ := ⟨_, rfl⟩
        simp only [hK1] at CF RF
        obtain ⟨K2, hK2⟩ : ∃ z_, (checkF O) = z_ := ⟨_, rfl⟩
        simp only [hK2] at CO RO
        have hk1e : (K1 == K1) = true := by simp
        have hk2e : (K2 == K2) = true := by simp
        have hq2 := Bl.rfl' w9
        clear hK1 hK2 hO hOl hown9 hHO hfO hHA9 hHF9 hHA hHF hown7 hb7 FD hfT okA
        replace hbF := Lib.hid hbF
        replace hq2 := Lib.hid hq2
        go_wp2_with fail
        with_reducible refine (CF.out _ hq2.out).mono ?_
        rintro e wa ⟨rfl, hn'⟩
        have hz1 := hbF.out.tr hn'
        have hq21 := hq2.out.tr hn'
        clear hbF hq2 hn'
        have hbF := Lib.hid hz1; have hq2 := Lib.hid hq21
        clear hz1 hq21
        go_wp2_with fail
        with_reducible refine (RF.out _ hq2.out).mono ?_
        rintro e wb ⟨rfl, hn'⟩
        have hz1 := hbF.out.tr hn'
        have hq21 := hq2.out.tr hn'
        clear hbF hq2 hn'
        have hbF := Lib.hid hz1; have hq2 := Lib.hid hq21
        clear hz1 hq21
        go_wp2_with fail
        with_reducible refine (CO.out _ hq2.out).mono ?_
        rintro e wc ⟨rfl, hn'⟩
        have hz1 := hbF.out.tr hn'
        have hq21 := hq2.out.tr hn'
        clear hbF hq2 hn'
        have hbF := Lib.hid hz1; have hq2 := Lib.hid hq21
        clear hz1 hq21
        go_wp2_with fail
        with_reducible refine (RO.out _ hq2.out).mono ?_
        rintro e wd' ⟨rfl, hn'⟩
        have hz1 := hbF.out.tr hn'
        have hq21 := hq2.out.tr hn'
        clear hbF hq2 hn'
        have hbF := Lib.hid hz1; have hq2 := Lib.hid hq21
        clear hz1 hq21
        go_wp2_with fail
        with_reducible refine (CA.out _ hq2.out).mono ?_
        rintro e we ⟨rfl, hn'⟩
        have hz1 := hbF.out.tr hn'
        have hq21 := hq2.out.tr hn'
        clear hbF hq2 hn'
        have hbF := Lib.hid hz1; have hq2 := Lib.hid hq21
        clear hz1 hq21
        go_wp2_with fail
        with_reducible refine (LV.out _).mono ?_
        rintro e wl ⟨rfl, hn'⟩
        go_wp2_with fail
        go_ret
        exact ⟨rfl, hbF.out.tr hn'⟩
end Go.Proofs.YtcbpagbalagllaaDoor.headsChecks
