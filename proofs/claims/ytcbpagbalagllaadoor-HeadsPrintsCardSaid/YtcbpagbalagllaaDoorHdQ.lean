/-
  The document's Same and Print.
-/
import Derived.Test.YtcbpagbalagllaaDoorHdP
import Derived.Test.YtcbpagbalagllaaDoorHdI
namespace Go.Proofs.YtcbpagbalagllaaDoor.heads
open Go.ChangeShapes Go.WideShapes Go.ChangeAt Go.RowKit
set_option linter.unusedVariables false
set_option linter.unusedSimpArgs false

theorem all_take (A : List Hd) (p : Hd → Bool) (k : Nat) (hk : k < A.length) : (A.take (k + 1)).all p = ((A.take k).all p && p (A.getD k h0)) := by
  rw [List.take_succ_eq_append_getElem hk, List.all_append, List.getD_eq_getElem?_getD, List.getElem?_eq_getElem hk]; simp
theorem all_no {A : List Hd} {p : Hd → Bool} {k : Nat} (hk : k < A.length) (h : p (A.getD k h0) = false) : A.all p = false := by
  rw [List.all_eq_false]
  exact ⟨A[k], List.getElem_mem _, by rw [List.getD_eq_getElem?_getD, List.getElem?_eq_getElem hk] at h; rw [show p A[k] = false from h]; simp⟩
theorem difB_is (B : List Hd) (x : Hd) : (getV B x.n = .tuple #[S ByteArray.empty, .bool false] ∧ difB B x = true) ∨ ∃ z : Hd, getV B x.n = .tuple #[S z.v, .bool true] ∧ difB B x = !(decide (z.v = x.v)) := by
  unfold getV difB
  cases h : getH B x.n with
  | none => exact Or.inl ⟨rfl, rfl⟩
  | some z => exact Or.inr ⟨z, rfl, rfl⟩
set_option maxRecDepth 20000 in
set_option maxHeartbeats 4000000 in
theorem rsame_any (v : Value) (A : List Hd) (u : Value) (B : List Hd) (w : World) (hw : HeadsAt w v A) (hu : HeadsAt w u B) (hl : A.length ≤ 1000) (hm : B.length ≤ 1000) :
    Calls Tryd.prog 32 #[v, u] w fun e w' => e = .returned (.bool (sameF A B)) ∧ w = w' := by
  have GB := Lib.hid (fun s => rget_any u B s w hu hm)
  obtain ⟨aa, ag, ao, ac, rfl, -, -, ar⟩ := hw
  obtain ⟨ba, bg, bo, bc, rfl, -, -, br⟩ := hu
  have RA := Lib.hid (fun i hi => ar.c hB_len h0 i hi)
  have AT := fun k h => all_take A (fun x => !(difB B x)) k h
  have AN := fun k h1 h2 => all_no (A := A) (p := fun x => !(difB B x)) (k := k) h1 h2
  have hS : sameF A B = (decide (A.length = B.length) && A.all fun x => !(difB B x)) := rfl
  obtain ⟨Q, hQ⟩ : ∃ z_, (sameF A B) = z_ := ⟨_, rfl⟩
  rw [hQ] at hS ⊢
  clear ar br hQ
  replace AT := Lib.hid AT
  replace AN := Lib.hid AN
  replace hS := Lib.hid hS
  go_enter Tryd.func32, Tryd.ntmps32
  go_wp2_with fail
  go_loopw [5] (fun i wr => ∃ k : Nat, k ≤ A.length ∧ i = I k ∧ ((A.take k).all fun x => !(difB B x)) = true ∧ wr = w) (fun i _ => A.length - (intOf i).toNat)
  case atStart => exact ⟨0, by omega, rfl, rfl, rfl⟩
  case round =>
    obtain ⟨k, hk, rfl, hall, rfl⟩ := hrel
    by_cases hlt : k < A.length
    · obtain ⟨ha, hcc⟩ := RA.out k hlt
      subst ha
      have c0 := hcc 0 (by decide)
      have c1 := hcc 1 (by decide)
      simp only [List.getElem?_cons_succ, List.getElem?_cons_zero, Nat.add_zero, ← Nat.add_assoc] at c0 c1
      have hat := AT.out k hlt
      have han := AN.out k hlt
      have hdi := difB_is B (A.getD k h0)
      rw [hall, Bool.true_and] at hat
      obtain ⟨x, hx⟩ : ∃ z_, (A.getD k h0) = z_ := ⟨_, rfl⟩
      rw [hx] at c0 c1 hat han hdi
      obtain ⟨n, z'⟩ := x
      simp only at c0 c1 hdi
      have G := GB.out n
      have wk : IntKind.i64.wrap ((k : Int) + 1) = ((k + 1 : Nat) : Int) := by rw [IntKind.wrap_i64]; omega
      clear hcc hx hall
      rcases hdi with ⟨hg, hd⟩ | ⟨z, hg, hd⟩
      · rw [hg] at G
        rw [hd] at han
        have hy := han rfl
        have hSo := hS.out
        rw [hy, Bool.and_false] at hSo
        clear hg hd hat han hy
        replace G := Lib.hid G
        replace hSo := Lib.hid hSo
        go_wp2_with fail
        with_reducible refine (G.out).mono ?_
        rintro e w' ⟨rfl, rfl⟩
        go_wp2_with fail
        go_ret
        exact ⟨by rw [hSo.out]; rfl, rfl⟩
      · rw [hg] at G
        rw [hd] at han hat
        obtain ⟨zn, zv⟩ := z
        simp only at han hat G
        by_cases he : zv = z'
        · rw [decide_eq_true he] at hat
          have e1 : (zv.toList != z'.toList) = false := by rw [txt_ne, decide_eq_true he]; rfl
          have e2 : (zv.toList == z'.toList) = true := by rw [txt_eq, decide_eq_true he]
          clear hg hd han he
          replace G := Lib.hid G
          replace hat := Lib.hid hat
          go_wp2_with fail
          with_reducible refine (G.out).mono ?_
          rintro e w' ⟨rfl, rfl⟩
          go_wp2_with fail
          go_roundw
          case rel => exact ⟨k + 1, by omega, by first | rfl | go_num, hat.out, by first | rfl | trivial⟩
          case measure => simp [intOf] <;> omega
        · rw [decide_eq_false he] at han
          have hy := han rfl
          have hSo := hS.out
          rw [hy, Bool.and_false] at hSo
          have e1 : (zv.toList != z'.toList) = true := by rw [txt_ne, decide_eq_false he]; rfl
          have e2 : (zv.toList == z'.toList) = false := by rw [txt_eq, decide_eq_false he]
          clear hg hd han hat he hy
          replace G := Lib.hid G
          replace hSo := Lib.hid hSo
          go_wp2_with fail
          with_reducible refine (G.out).mono ?_
          rintro e w' ⟨rfl, rfl⟩
          go_wp2_with fail
          go_ret
          exact ⟨by rw [hSo.out]; rfl, rfl⟩
    · obtain rfl : k = A.length := by omega
      rw [List.take_length] at hall
      have hSo := hS.out
      rw [hall, Bool.and_true] at hSo
      have hlen : ((A.length : Int) == (B.length : Int)) = Q := by
        rw [hSo]
        by_cases h : A.length = B.length
        · rw [decide_eq_true h, h]; simp
        · rw [decide_eq_false h]; exact beq_eq_false_iff_ne.2 (by omega)
      have hlen2 : (A.length == B.length) = Q := by
        rw [hSo]
        by_cases h : A.length = B.length
        · rw [decide_eq_true h, h]; simp
        · rw [decide_eq_false h]; exact beq_eq_false_iff_ne.2 h
      clear hall
      replace hSo := Lib.hid hSo
      go_wp2_with fail
      go_ret
      exact ⟨rfl, rfl⟩

theorem dec_same : ∀ n, n < 100 → decS 2 n = digs n := by decide +kernel
/-- What stands there behind k words. -/
def outP (A : List Hd) : Nat → ByteArray
  | 0 => ByteArray.empty
  | k + 1 => (if 0 < k then outP A k ++ blank else outP A k) ++ (A.getD k h0).n ++ colon ++ digs (A.getD k h0).v.size ++ colon ++ (A.getD k h0).v
theorem joinTail_snoc (sep : List UInt8) : ∀ (r : List (List UInt8)) (x : List UInt8), Lib.joinTail sep (r ++ [x]) = Lib.joinTail sep r ++ (sep ++ x) := by
  intro r x
  unfold Lib.joinTail
  rw [List.map_append, List.flatten_append]
  simp
theorem join_snoc (sep : List UInt8) (r : List (List UInt8)) (x : List UInt8) : Lib.join (r ++ [x]) sep = if r = [] then x else Lib.join r sep ++ (sep ++ x) := by
  cases r with
  | nil => simp [Lib.join_one]
  | cons y r =>
    rw [if_neg (by simp), List.cons_append, Lib.join_cons, Lib.join_cons, joinTail_snoc, List.append_assoc]
theorem outP_is (A : List Hd) : ∀ k, k ≤ A.length → (outP A k).data.toList = Lib.join (((A.take k).map wordF).map (·.data.toList)) [32]
  | 0, _ => rfl
  | k + 1, h => by
    have ih := outP_is A k (by omega)
    have hw := word_list (A.getD k h0)
    rw [List.take_succ_eq_append_getElem (by omega), List.map_append, List.map_append, List.map_cons, List.map_nil, List.map_cons, List.map_nil, join_snoc]
    have hg : A[k] = A.getD k h0 := by rw [List.getD_eq_getElem?_getD, List.getElem?_eq_getElem (by omega)]; rfl
    rw [hg, hw]
    by_cases h0k : 0 < k
    · rw [if_neg (by intro hc; have := congrArg List.length hc; rw [List.length_map, List.length_map, List.length_take, List.length_nil] at this; omega), outP, if_pos h0k, ← ih]
      simp only [ByteArray.data_append, Array.toList_append]
      simp [colon, blank]
    · obtain rfl : k = 0 := by omega
      rw [if_pos (by simp), outP, if_neg (by omega)]
      simp only [ByteArray.data_append, Array.toList_append]
      simp [colon, outP]
theorem outP_all (A : List Hd) : outP A A.length = printF A := by
  have h := outP_is A A.length (Nat.le_refl _)
  rw [List.take_length] at h
  unfold printF joinF
  show outP A A.length = ⟨(Lib.join _ [32]).toArray⟩
  rw [← h]

theorem outP_size (A : List Hd) (hf : ∀ x ∈ A, x.n.size ≤ 1000 ∧ x.v.size < 100) : ∀ k, k ≤ A.length → (outP A k).size ≤ k * 1300
  | 0, _ => by simp [outP]
  | k + 1, h => by
    have ih := outP_size A hf k (by omega)
    have hx := hf (A.getD k h0) (by rw [List.getD_eq_getElem?_getD, List.getElem?_eq_getElem (by omega)]; exact List.getElem_mem _)
    have hd := digs_size _ hx.2
    have c1 : colon.size = 1 := rfl
    have c2 : blank.size = 1 := rfl
    unfold outP
    split
    · simp only [ByteArray.size_append]; omega
    · simp only [ByteArray.size_append]; omega
set_option maxRecDepth 20000 in
set_option maxHeartbeats 8000000 in
theorem rprint_any (v : Value) (A : List Hd) (w : World) (hv : HeadsAt w v A) (hl : A.length ≤ 100) (hf : ∀ x ∈ A, x.n.size ≤ 1000 ∧ x.v.size < 100) :
    Calls Tryd.prog 30 #[v] w fun e w' => e = .returned (S (printF A)) ∧ Bl w w' := by
  obtain ⟨ba, g, o, bcap, rfl, b1, b2, br⟩ := hv
  have RC := Lib.hid (fun w' (hb : Bl w w') i hi => (br.bl hb).c hB_len h0 i hi)
  have ff := fun k (hk : k < A.length) => hf (A.getD k h0) (by rw [List.getD_eq_getElem?_getD, List.getElem?_eq_getElem hk]; exact List.getElem_mem _)
  have OS := outP_size A hf
  have ON : ∀ k, outP A (k + 1) = (if 0 < k then outP A k ++ blank else outP A k) ++ (A.getD k h0).n ++ colon ++ digs (A.getD k h0).v.size ++ colon ++ (A.getD k h0).v := fun k => rfl
  have O0 : outP A 0 = ⟨#[]⟩ := rfl
  rw [← outP_all]
  obtain ⟨O, hO⟩ : ∃ z_, (outP A) = z_ := ⟨_, rfl⟩
  have hO' : ∀ k, outP A k = O k := fun k => congrFun hO k
  simp only [hO'] at OS ON O0
  rw [hO]
  clear br hf hO hO'
  replace ff := Lib.hid ff
  replace OS := Lib.hid OS
  replace ON := Lib.hid ON
  replace O0 := Lib.hid O0
  go_enter Tryd.func30, Tryd.ntmps30
  go_wp2_with fail
  go_loopw [3, 4] (fun s i wr => ∃ k : Nat, k ≤ A.length ∧ i = I k ∧ s = S (O k) ∧ Bl w wr) (fun _ i _ => A.length - (intOf i).toNat)
  case atStart => exact ⟨0, by omega, rfl, by rw [O0.out], Bl.rfl' _⟩
  case round =>
    obtain ⟨k, hk, rfl, rfl, hbr⟩ := hrel
    by_cases hlt : k < A.length
    · obtain ⟨ha, -⟩ := RC.out _ hbr k hlt
      subst ha
      have f1 := ff.out k hlt
      have os := OS.out k hk
      have hst := ON.out k
      have hk100 : k * 1300 ≤ 100 * 1300 := Nat.mul_le_mul_right _ (by omega)
      obtain ⟨x, hx⟩ : ∃ z_, (A.getD k h0) = z_ := ⟨_, rfl⟩
      rw [hx] at hst f1
      obtain ⟨n, u⟩ := x
      simp only at hst f1
      obtain ⟨f1, f2⟩ := f1
      have hdg := digs_size u.size f2
      obtain ⟨dg, hdg'⟩ : ∃ z_, (digs u.size) = z_ := ⟨_, rfl⟩
      rw [hdg'] at hdg hst
      have wk : IntKind.i64.wrap ((k : Int) + 1) = ((k + 1 : Nat) : Int) := by rw [IntKind.wrap_i64]; omega
      by_cases hk0 : 0 < k
      · rw [if_pos hk0] at hst
        have dk : decide ((k : Int) > 0) = true := decide_eq_true (by omega)
        have dk2 : decide (0 < k) = true := decide_eq_true hk0
        have dk3 : decide ((0 : Int) < (k : Int)) = true := decide_eq_true (by omega)
        obtain ⟨q, hq⟩ : ∃ z_, (O k) = z_ := ⟨_, rfl⟩
        rw [hq] at hst os ⊢
        have s0 : (q ++ blank).size = q.size + 1 := by rw [ByteArray.size_append]; rfl
        have a0 : ∀ w, (Op.stringOp .add q ⟨#[32]⟩).run Tryd.prog w = .ok (.string (q ++ blank)) w := fun w => run_string_add_sum w q blank (by have : blank.size = 1 := rfl; omega)
        obtain ⟨p0, hp0⟩ : ∃ z_, (q ++ blank) = z_ := ⟨_, rfl⟩
        simp only [hp0] at a0 hst s0
        clear hp0 hq
        have s1 : (p0 ++ n).size = p0.size + n.size := ByteArray.size_append
        have a1 : ∀ w, (Op.stringOp .add p0 n).run Tryd.prog w = .ok (.string (p0 ++ n)) w := fun w => run_string_add_sum w p0 n (by omega)
        obtain ⟨p1, hp1⟩ : ∃ z_, (p0 ++ n) = z_ := ⟨_, rfl⟩
        simp only [hp1] at a1 hst s1
        have s2 : (p1 ++ colon).size = p1.size + 1 := by rw [ByteArray.size_append]; rfl
        have a2 : ∀ w, (Op.stringOp .add p1 ⟨#[58]⟩).run Tryd.prog w = .ok (.string (p1 ++ colon)) w := fun w => run_string_add_sum w p1 colon (by have : colon.size = 1 := rfl; omega)
        obtain ⟨p2, hp2⟩ : ∃ z_, (p1 ++ colon) = z_ := ⟨_, rfl⟩
        simp only [hp2] at a2 hst s2
        have s3 : (p2 ++ dg).size = p2.size + dg.size := ByteArray.size_append
        have a3 : ∀ w, (Op.stringOp .add p2 dg).run Tryd.prog w = .ok (.string (p2 ++ dg)) w := fun w => run_string_add_sum w p2 dg (by omega)
        obtain ⟨p3, hp3⟩ : ∃ z_, (p2 ++ dg) = z_ := ⟨_, rfl⟩
        simp only [hp3] at a3 hst s3
        have s4 : (p3 ++ colon).size = p3.size + 1 := by rw [ByteArray.size_append]; rfl
        have a4 : ∀ w, (Op.stringOp .add p3 ⟨#[58]⟩).run Tryd.prog w = .ok (.string (p3 ++ colon)) w := fun w => run_string_add_sum w p3 colon (by have : colon.size = 1 := rfl; omega)
        obtain ⟨p4, hp4⟩ : ∃ z_, (p3 ++ colon) = z_ := ⟨_, rfl⟩
        simp only [hp4] at a4 hst s4
        have a5 : ∀ w, (Op.stringOp .add p4 u).run Tryd.prog w = .ok (.string (p4 ++ u)) w := fun w => run_string_add_sum w p4 u (by omega)
        obtain ⟨p5, hp5⟩ : ∃ z_, (p4 ++ u) = z_ := ⟨_, rfl⟩
        simp only [hp5] at a5 hst
        clear s1 s2 s3 s4 hp1 hp2 hp3 hp4 hp5
        clear s0
        have hbD := hbr.dr
        have cD := RC.out _ hbD k hlt
        have d0 := cD.2 0 (by decide)
        have d1 := cD.2 1 (by decide)
        simp only [List.getElem?_cons_succ, List.getElem?_cons_zero, Nat.add_zero, ← Nat.add_assoc] at d0 d1
        rw [hx] at d0 d1
        simp only at d0 d1
        have DC := decS_any 1 u.size wr.drew (by omega) (by omega)
        rw [dec_same _ f2, hdg'] at DC
        have RK := Lib.hid (fun w' (hb : Bl w w') => (RC.out w' hb k hlt).2)
        have hx' := Lib.hid hx
        clear cD hx hbr
        replace hbD := Lib.hid hbD
        replace DC := Lib.hid DC
        replace hst := Lib.hid hst
        go_wp2_with fail
        refine wp_region_held_drew (S := fun w' => w'.cell? ⟨g, o + k * 2, none⟩ = some (S n) ∧ w'.cell? ⟨g, o + k * 2 + 1, none⟩ = some (S u)) (by kernel_rfl) ?_ (fun hHeld => ?_)
        · exact ⟨d0, d1⟩
        refine wpAnyH_take (i := 0) (v := ?v0_1) rfl (by kernel_rfl) (by kernel_rfl) (by kernel_rfl) (fun _ _ _ h => h) (Or.inl ⟨by rfl, ?y0_1⟩) hHeld ?r0_1
        case y0_1 => (intro w hSw; (try dsimp only at hSw); go_split_ands; go_simp; try with_reducible rfl)
        try simp only [List.getElem_toArray, List.getElem_cons_succ, List.getElem_cons_zero, Act.put, List.setIfInBounds_toArray, List.set_cons_zero, List.set_cons_succ]
        refine wpAnyH_take (i := 1) (v := ?v1_2) rfl (by kernel_rfl) (by kernel_rfl) (by kernel_rfl) (fun _ _ _ h => h) (Or.inl ⟨by rfl, ?y1_2⟩) hHeld ?r1_2
        case y1_2 => (intro w hSw; (try dsimp only at hSw); go_split_ands; go_simp; try with_reducible rfl)
        try simp only [List.getElem_toArray, List.getElem_cons_succ, List.getElem_cons_zero, Act.put, List.setIfInBounds_toArray, List.set_cons_zero, List.set_cons_succ]
        refine wpAnyH_take (i := 2) (v := ?v2_3) rfl (by kernel_rfl) (by kernel_rfl) (by kernel_rfl) (fun _ _ _ h => h) (Or.inl ⟨by rfl, ?y2_3⟩) hHeld ?r2_3
        case y2_3 => (intro w hSw; (try dsimp only at hSw); go_split_ands; go_simp; try with_reducible rfl)
        try simp only [List.getElem_toArray, List.getElem_cons_succ, List.getElem_cons_zero, Act.put, List.setIfInBounds_toArray, List.set_cons_zero, List.set_cons_succ]
        refine wpAnyH_take (i := 3) (v := ?v3_4) rfl (by kernel_rfl) (by kernel_rfl) (by kernel_rfl) (fun _ _ _ h => h) (Or.inl ⟨by rfl, ?y3_4⟩) hHeld ?r3_4
        case y3_4 => (intro w hSw; (try dsimp only at hSw); go_split_ands; go_simp; try with_reducible rfl)
        try simp only [List.getElem_toArray, List.getElem_cons_succ, List.getElem_cons_zero, Act.put, List.setIfInBounds_toArray, List.set_cons_zero, List.set_cons_succ]
        refine wpAnyH_take (i := 4) (v := ?v4_5) rfl (by kernel_rfl) (by kernel_rfl) (by kernel_rfl) (fun _ _ _ h => h) (Or.inl ⟨by rfl, ?y4_5⟩) hHeld ?r4_5
        case y4_5 => (intro w hSw; (try dsimp only at hSw); go_split_ands; go_simp; try with_reducible rfl)
        try simp only [List.getElem_toArray, List.getElem_cons_succ, List.getElem_cons_zero, Act.put, List.setIfInBounds_toArray, List.set_cons_zero, List.set_cons_succ]
        refine wpAnyH_take (i := 5) (v := ?v5_6) rfl (by kernel_rfl) (by kernel_rfl) (by kernel_rfl) (fun _ _ _ h => h) (Or.inl ⟨by rfl, ?y5_6⟩) hHeld ?r5_6
        case y5_6 => (intro w hSw; (try dsimp only at hSw); go_split_ands; go_simp; try with_reducible rfl)
        try simp only [List.getElem_toArray, List.getElem_cons_succ, List.getElem_cons_zero, Act.put, List.setIfInBounds_toArray, List.set_cons_zero, List.set_cons_succ]
        refine wpAnyH_take (i := 6) (v := ?v6_7) rfl (by kernel_rfl) (by kernel_rfl) (by kernel_rfl) (fun _ _ _ h => h) (Or.inl ⟨by rfl, ?y6_7⟩) hHeld ?r6_7
        case y6_7 => (intro w hSw; (try dsimp only at hSw); go_split_ands; go_simp; try with_reducible rfl)
        try simp only [List.getElem_toArray, List.getElem_cons_succ, List.getElem_cons_zero, Act.put, List.setIfInBounds_toArray, List.set_cons_zero, List.set_cons_succ]
        refine wpAnyH_take (i := 7) (v := ?v7_8) rfl (by kernel_rfl) (by kernel_rfl) (by kernel_rfl) (fun _ _ _ h => h) (Or.inl ⟨by rfl, ?y7_8⟩) hHeld ?r7_8
        case y7_8 => (intro w hSw; (try dsimp only at hSw); go_split_ands; go_simp; try with_reducible rfl)
        try simp only [List.getElem_toArray, List.getElem_cons_succ, List.getElem_cons_zero, Act.put, List.setIfInBounds_toArray, List.set_cons_zero, List.set_cons_succ]
        refine wpAnyH_take (i := 8) (v := ?v8_9) rfl (by kernel_rfl) (by kernel_rfl) (by kernel_rfl) (fun _ _ _ h => h) (Or.inl ⟨by rfl, ?y8_9⟩) hHeld ?r8_9
        case y8_9 => (intro w hSw; (try dsimp only at hSw); go_split_ands; go_simp; try with_reducible rfl)
        try simp only [List.getElem_toArray, List.getElem_cons_succ, List.getElem_cons_zero, Act.put, List.setIfInBounds_toArray, List.set_cons_zero, List.set_cons_succ]
        refine wpAnyH_take (i := 9) (v := ?v9_10) rfl (by kernel_rfl) (by kernel_rfl) (by kernel_rfl) (fun _ _ _ h => h) (Or.inl ⟨by rfl, ?y9_10⟩) hHeld ?r9_10
        case y9_10 => (intro w hSw; (try dsimp only at hSw); go_split_ands; go_simp; try with_reducible rfl)
        try simp only [List.getElem_toArray, List.getElem_cons_succ, List.getElem_cons_zero, Act.put, List.setIfInBounds_toArray, List.set_cons_zero, List.set_cons_succ]
        refine wpAnyH_take (i := 10) (v := ?v10_11) rfl (by kernel_rfl) (by kernel_rfl) (by kernel_rfl) (fun _ _ _ h => h) (Or.inl ⟨by rfl, ?y10_11⟩) hHeld ?r10_11
        case y10_11 => (intro w hSw; (try dsimp only at hSw); go_split_ands; go_simp; try with_reducible rfl)
        try simp only [List.getElem_toArray, List.getElem_cons_succ, List.getElem_cons_zero, Act.put, List.setIfInBounds_toArray, List.set_cons_zero, List.set_cons_succ]
        refine wpAnyH_take (i := 11) (v := ?v11_12) rfl (by kernel_rfl) (by kernel_rfl) (by kernel_rfl) (fun _ _ _ h => h) (Or.inl ⟨by rfl, ?y11_12⟩) hHeld ?r11_12
        case y11_12 => (intro w hSw; (try dsimp only at hSw); go_split_ands; go_simp; try with_reducible rfl)
        try simp only [List.getElem_toArray, List.getElem_cons_succ, List.getElem_cons_zero, Act.put, List.setIfInBounds_toArray, List.set_cons_zero, List.set_cons_succ]
        refine wpAnyH_take (i := 12) (v := ?v12_13) rfl (by kernel_rfl) (by kernel_rfl) (by kernel_rfl) (fun _ _ _ h => h) (Or.inl ⟨by rfl, ?y12_13⟩) hHeld ?r12_13
        case y12_13 => (intro w hSw; (try dsimp only at hSw); go_split_ands; go_simp; try with_reducible rfl)
        try simp only [List.getElem_toArray, List.getElem_cons_succ, List.getElem_cons_zero, Act.put, List.setIfInBounds_toArray, List.set_cons_zero, List.set_cons_succ]
        refine wpAnyH_take (i := 13) (v := ?v13_14) rfl (by kernel_rfl) (by kernel_rfl) (by kernel_rfl) (fun _ _ _ h => h) (Or.inl ⟨by rfl, ?y13_14⟩) hHeld ?r13_14
        case y13_14 => (intro w hSw; (try dsimp only at hSw); go_split_ands; go_simp; try with_reducible rfl)
        try simp only [List.getElem_toArray, List.getElem_cons_succ, List.getElem_cons_zero, Act.put, List.setIfInBounds_toArray, List.set_cons_zero, List.set_cons_succ]
        refine wpAnyH_take (i := 17) (v := ?v17_15) rfl (by kernel_rfl) (by kernel_rfl) (by kernel_rfl) (fun _ _ _ h => h) (Or.inl ⟨by rfl, ?y17_15⟩) hHeld ?r17_15
        case y17_15 => (intro w hSw; (try dsimp only at hSw); go_split_ands; go_simp; try with_reducible rfl)
        try simp only [List.getElem_toArray, List.getElem_cons_succ, List.getElem_cons_zero, Act.put, List.setIfInBounds_toArray, List.set_cons_zero, List.set_cons_succ]
        refine wpAnyH_take (i := 18) (v := ?v18_16) rfl (by kernel_rfl) (by kernel_rfl) (by kernel_rfl) (fun _ _ _ h => h) (Or.inl ⟨by rfl, ?y18_16⟩) hHeld ?r18_16
        case y18_16 => (intro w hSw; (try dsimp only at hSw); go_split_ands; go_simp; try with_reducible rfl)
        try simp only [List.getElem_toArray, List.getElem_cons_succ, List.getElem_cons_zero, Act.put, List.setIfInBounds_toArray, List.set_cons_zero, List.set_cons_succ]
        refine wpAnyH_take (i := 19) (v := ?v19_17) rfl (by kernel_rfl) (by kernel_rfl) (by kernel_rfl) (fun _ _ _ h => h) (Or.inl ⟨by rfl, ?y19_17⟩) hHeld ?r19_17
        case y19_17 => (intro w hSw; (try dsimp only at hSw); go_split_ands; go_simp; try with_reducible rfl)
        try simp only [List.getElem_toArray, List.getElem_cons_succ, List.getElem_cons_zero, Act.put, List.setIfInBounds_toArray, List.set_cons_zero, List.set_cons_succ]
        refine wpAnyH_take (i := 20) (v := ?v20_18) rfl (by kernel_rfl) (by kernel_rfl) (by kernel_rfl) (fun _ _ _ h => h) (Or.inl ⟨by rfl, ?y20_18⟩) hHeld ?r20_18
        case y20_18 => (intro w hSw; (try dsimp only at hSw); go_split_ands; go_simp; try with_reducible rfl)
        try simp only [List.getElem_toArray, List.getElem_cons_succ, List.getElem_cons_zero, Act.put, List.setIfInBounds_toArray, List.set_cons_zero, List.set_cons_succ]
        refine wpAnyH_take (i := 21) (v := ?v21_19) rfl (by kernel_rfl) (by kernel_rfl) (by kernel_rfl) (fun _ _ _ h => h) (Or.inl ⟨by rfl, ?y21_19⟩) hHeld ?r21_19
        case y21_19 => (intro w hSw; (try dsimp only at hSw); go_split_ands; go_simp; try with_reducible rfl)
        try simp only [List.getElem_toArray, List.getElem_cons_succ, List.getElem_cons_zero, Act.put, List.setIfInBounds_toArray, List.set_cons_zero, List.set_cons_succ]
        refine wpAnyH_ready (rs := [14]) (by kernel_rfl) (by simp) ?_
        refine AllReadyH.cons rfl (fun K hK => ?_) AllReadyH.nil
        have hHeld' := hHeld
        try dsimp only at hHeld'
        go_split_ands
        go_simp
        refine (DC.out).mono ?_
        rintro e w' ⟨rfl, hn⟩
        have hbz := hbD.out.tr hn
        have e0 := RK.out _ hbz 0 (by decide)
        have e1 := RK.out _ hbz 1 (by decide)
        simp only [List.getElem?_cons_succ, List.getElem?_cons_zero, Nat.add_zero, ← Nat.add_assoc] at e0 e1
        rw [hx'.out] at e0 e1
        simp only at e0 e1
        clear hn d0 d1
        replace hbz := Lib.hid hbz
        refine hK.out _ _ ?_ (fun hHeld => ?_)
        · exact ⟨e0, e1⟩
        clear hK K
        try simp only [List.getElem_toArray, List.getElem_cons_succ, List.getElem_cons_zero, Act.put, List.setIfInBounds_toArray, List.set_cons_zero, List.set_cons_succ]
        refine wpAnyH_take (i := 15) (v := ?v15_20) rfl (by kernel_rfl) (by kernel_rfl) (by kernel_rfl) (fun _ _ _ h => h) (Or.inl ⟨by rfl, ?y15_20⟩) hHeld ?r15_20
        case y15_20 => (intro w hSw; (try dsimp only at hSw); go_split_ands; go_simp; try with_reducible rfl)
        try simp only [List.getElem_toArray, List.getElem_cons_succ, List.getElem_cons_zero, Act.put, List.setIfInBounds_toArray, List.set_cons_zero, List.set_cons_succ]
        refine wpAnyH_take (i := 16) (v := ?v16_21) rfl (by kernel_rfl) (by kernel_rfl) (by kernel_rfl) (fun _ _ _ h => h) (Or.inl ⟨by rfl, ?y16_21⟩) hHeld ?r16_21
        case y16_21 => (intro w hSw; (try dsimp only at hSw); go_split_ands; go_simp; try with_reducible rfl)
        try simp only [List.getElem_toArray, List.getElem_cons_succ, List.getElem_cons_zero, Act.put, List.setIfInBounds_toArray, List.set_cons_zero, List.set_cons_succ]
        refine wpAnyH_take (i := 22) (v := ?v22_22) rfl (by kernel_rfl) (by kernel_rfl) (by kernel_rfl) (fun _ _ _ h => h) (Or.inl ⟨by rfl, ?y22_22⟩) hHeld ?r22_22
        case y22_22 => (intro w hSw; (try dsimp only at hSw); go_split_ands; go_simp; try with_reducible rfl)
        try simp only [List.getElem_toArray, List.getElem_cons_succ, List.getElem_cons_zero, Act.put, List.setIfInBounds_toArray, List.set_cons_zero, List.set_cons_succ]
        refine wpAnyH_take (i := 23) (v := ?v23_23) rfl (by kernel_rfl) (by kernel_rfl) (by kernel_rfl) (fun _ _ _ h => h) (Or.inl ⟨by rfl, ?y23_23⟩) hHeld ?r23_23
        case y23_23 => (intro w hSw; (try dsimp only at hSw); go_split_ands; go_simp; try with_reducible rfl)
        try simp only [List.getElem_toArray, List.getElem_cons_succ, List.getElem_cons_zero, Act.put, List.setIfInBounds_toArray, List.set_cons_zero, List.set_cons_succ]
        refine wpAnyH_done (by kernel_rfl) ?_ _
        clear e0 e1
        go_wp2_with fail
        go_roundw
        case rel => exact ⟨k + 1, by omega, by first | rfl | go_num, by rw [hst.out], hbz.out⟩
        case measure => simp [intOf] <;> omega
      · rw [if_neg hk0] at hst
        have dk : decide ((k : Int) > 0) = false := decide_eq_false (by omega)
        have dk2 : decide (0 < k) = false := decide_eq_false hk0
        have dk3 : decide ((0 : Int) < (k : Int)) = false := decide_eq_false (by omega)
        obtain ⟨p0, hp0⟩ : ∃ z_, (O k) = z_ := ⟨_, rfl⟩
        rw [hp0] at hst os ⊢
        clear hp0
        have s1 : (p0 ++ n).size = p0.size + n.size := ByteArray.size_append
        have a1 : ∀ w, (Op.stringOp .add p0 n).run Tryd.prog w = .ok (.string (p0 ++ n)) w := fun w => run_string_add_sum w p0 n (by omega)
        obtain ⟨p1, hp1⟩ : ∃ z_, (p0 ++ n) = z_ := ⟨_, rfl⟩
        simp only [hp1] at a1 hst s1
        have s2 : (p1 ++ colon).size = p1.size + 1 := by rw [ByteArray.size_append]; rfl
        have a2 : ∀ w, (Op.stringOp .add p1 ⟨#[58]⟩).run Tryd.prog w = .ok (.string (p1 ++ colon)) w := fun w => run_string_add_sum w p1 colon (by have : colon.size = 1 := rfl; omega)
        obtain ⟨p2, hp2⟩ : ∃ z_, (p1 ++ colon) = z_ := ⟨_, rfl⟩
        simp only [hp2] at a2 hst s2
        have s3 : (p2 ++ dg).size = p2.size + dg.size := ByteArray.size_append
        have a3 : ∀ w, (Op.stringOp .add p2 dg).run Tryd.prog w = .ok (.string (p2 ++ dg)) w := fun w => run_string_add_sum w p2 dg (by omega)
        obtain ⟨p3, hp3⟩ : ∃ z_, (p2 ++ dg) = z_ := ⟨_, rfl⟩
        simp only [hp3] at a3 hst s3
        have s4 : (p3 ++ colon).size = p3.size + 1 := by rw [ByteArray.size_append]; rfl
        have a4 : ∀ w, (Op.stringOp .add p3 ⟨#[58]⟩).run Tryd.prog w = .ok (.string (p3 ++ colon)) w := fun w => run_string_add_sum w p3 colon (by have : colon.size = 1 := rfl; omega)
        obtain ⟨p4, hp4⟩ : ∃ z_, (p3 ++ colon) = z_ := ⟨_, rfl⟩
        simp only [hp4] at a4 hst s4
        have a5 : ∀ w, (Op.stringOp .add p4 u).run Tryd.prog w = .ok (.string (p4 ++ u)) w := fun w => run_string_add_sum w p4 u (by omega)
        obtain ⟨p5, hp5⟩ : ∃ z_, (p4 ++ u) = z_ := ⟨_, rfl⟩
        simp only [hp5] at a5 hst
        clear s1 s2 s3 s4 hp1 hp2 hp3 hp4 hp5
        have hbD := hbr.dr
        have cD := RC.out _ hbD k hlt
        have d0 := cD.2 0 (by decide)
        have d1 := cD.2 1 (by decide)
        simp only [List.getElem?_cons_succ, List.getElem?_cons_zero, Nat.add_zero, ← Nat.add_assoc] at d0 d1
        rw [hx] at d0 d1
        simp only at d0 d1
        have DC := decS_any 1 u.size wr.drew (by omega) (by omega)
        rw [dec_same _ f2, hdg'] at DC
        have RK := Lib.hid (fun w' (hb : Bl w w') => (RC.out w' hb k hlt).2)
        have hx' := Lib.hid hx
        clear cD hx hbr
        replace hbD := Lib.hid hbD
        replace DC := Lib.hid DC
        replace hst := Lib.hid hst
        go_wp2_with fail
        refine wp_region_held_drew (S := fun w' => w'.cell? ⟨g, o + k * 2, none⟩ = some (S n) ∧ w'.cell? ⟨g, o + k * 2 + 1, none⟩ = some (S u)) (by kernel_rfl) ?_ (fun hHeld => ?_)
        · exact ⟨d0, d1⟩
        refine wpAnyH_take (i := 0) (v := ?v0_24) rfl (by kernel_rfl) (by kernel_rfl) (by kernel_rfl) (fun _ _ _ h => h) (Or.inl ⟨by rfl, ?y0_24⟩) hHeld ?r0_24
        case y0_24 => (intro w hSw; (try dsimp only at hSw); go_split_ands; go_simp; try with_reducible rfl)
        try simp only [List.getElem_toArray, List.getElem_cons_succ, List.getElem_cons_zero, Act.put, List.setIfInBounds_toArray, List.set_cons_zero, List.set_cons_succ]
        refine wpAnyH_take (i := 1) (v := ?v1_25) rfl (by kernel_rfl) (by kernel_rfl) (by kernel_rfl) (fun _ _ _ h => h) (Or.inl ⟨by rfl, ?y1_25⟩) hHeld ?r1_25
        case y1_25 => (intro w hSw; (try dsimp only at hSw); go_split_ands; go_simp; try with_reducible rfl)
        try simp only [List.getElem_toArray, List.getElem_cons_succ, List.getElem_cons_zero, Act.put, List.setIfInBounds_toArray, List.set_cons_zero, List.set_cons_succ]
        refine wpAnyH_take (i := 2) (v := ?v2_26) rfl (by kernel_rfl) (by kernel_rfl) (by kernel_rfl) (fun _ _ _ h => h) (Or.inl ⟨by rfl, ?y2_26⟩) hHeld ?r2_26
        case y2_26 => (intro w hSw; (try dsimp only at hSw); go_split_ands; go_simp; try with_reducible rfl)
        try simp only [List.getElem_toArray, List.getElem_cons_succ, List.getElem_cons_zero, Act.put, List.setIfInBounds_toArray, List.set_cons_zero, List.set_cons_succ]
        refine wpAnyH_take (i := 3) (v := ?v3_27) rfl (by kernel_rfl) (by kernel_rfl) (by kernel_rfl) (fun _ _ _ h => h) (Or.inl ⟨by rfl, ?y3_27⟩) hHeld ?r3_27
        case y3_27 => (intro w hSw; (try dsimp only at hSw); go_split_ands; go_simp; try with_reducible rfl)
        try simp only [List.getElem_toArray, List.getElem_cons_succ, List.getElem_cons_zero, Act.put, List.setIfInBounds_toArray, List.set_cons_zero, List.set_cons_succ]
        refine wpAnyH_take (i := 4) (v := ?v4_28) rfl (by kernel_rfl) (by kernel_rfl) (by kernel_rfl) (fun _ _ _ h => h) (Or.inl ⟨by rfl, ?y4_28⟩) hHeld ?r4_28
        case y4_28 => (intro w hSw; (try dsimp only at hSw); go_split_ands; go_simp; try with_reducible rfl)
        try simp only [List.getElem_toArray, List.getElem_cons_succ, List.getElem_cons_zero, Act.put, List.setIfInBounds_toArray, List.set_cons_zero, List.set_cons_succ]
        refine wpAnyH_take (i := 5) (v := ?v5_29) rfl (by kernel_rfl) (by kernel_rfl) (by kernel_rfl) (fun _ _ _ h => h) (Or.inl ⟨by rfl, ?y5_29⟩) hHeld ?r5_29
        case y5_29 => (intro w hSw; (try dsimp only at hSw); go_split_ands; go_simp; try with_reducible rfl)
        try simp only [List.getElem_toArray, List.getElem_cons_succ, List.getElem_cons_zero, Act.put, List.setIfInBounds_toArray, List.set_cons_zero, List.set_cons_succ]
        refine wpAnyH_take (i := 6) (v := ?v6_30) rfl (by kernel_rfl) (by kernel_rfl) (by kernel_rfl) (fun _ _ _ h => h) (Or.inl ⟨by rfl, ?y6_30⟩) hHeld ?r6_30
        case y6_30 => (intro w hSw; (try dsimp only at hSw); go_split_ands; go_simp; try with_reducible rfl)
        try simp only [List.getElem_toArray, List.getElem_cons_succ, List.getElem_cons_zero, Act.put, List.setIfInBounds_toArray, List.set_cons_zero, List.set_cons_succ]
        refine wpAnyH_take (i := 7) (v := ?v7_31) rfl (by kernel_rfl) (by kernel_rfl) (by kernel_rfl) (fun _ _ _ h => h) (Or.inl ⟨by rfl, ?y7_31⟩) hHeld ?r7_31
        case y7_31 => (intro w hSw; (try dsimp only at hSw); go_split_ands; go_simp; try with_reducible rfl)
        try simp only [List.getElem_toArray, List.getElem_cons_succ, List.getElem_cons_zero, Act.put, List.setIfInBounds_toArray, List.set_cons_zero, List.set_cons_succ]
        refine wpAnyH_take (i := 8) (v := ?v8_32) rfl (by kernel_rfl) (by kernel_rfl) (by kernel_rfl) (fun _ _ _ h => h) (Or.inl ⟨by rfl, ?y8_32⟩) hHeld ?r8_32
        case y8_32 => (intro w hSw; (try dsimp only at hSw); go_split_ands; go_simp; try with_reducible rfl)
        try simp only [List.getElem_toArray, List.getElem_cons_succ, List.getElem_cons_zero, Act.put, List.setIfInBounds_toArray, List.set_cons_zero, List.set_cons_succ]
        refine wpAnyH_take (i := 9) (v := ?v9_33) rfl (by kernel_rfl) (by kernel_rfl) (by kernel_rfl) (fun _ _ _ h => h) (Or.inl ⟨by rfl, ?y9_33⟩) hHeld ?r9_33
        case y9_33 => (intro w hSw; (try dsimp only at hSw); go_split_ands; go_simp; try with_reducible rfl)
        try simp only [List.getElem_toArray, List.getElem_cons_succ, List.getElem_cons_zero, Act.put, List.setIfInBounds_toArray, List.set_cons_zero, List.set_cons_succ]
        refine wpAnyH_take (i := 10) (v := ?v10_34) rfl (by kernel_rfl) (by kernel_rfl) (by kernel_rfl) (fun _ _ _ h => h) (Or.inl ⟨by rfl, ?y10_34⟩) hHeld ?r10_34
        case y10_34 => (intro w hSw; (try dsimp only at hSw); go_split_ands; go_simp; try with_reducible rfl)
        try simp only [List.getElem_toArray, List.getElem_cons_succ, List.getElem_cons_zero, Act.put, List.setIfInBounds_toArray, List.set_cons_zero, List.set_cons_succ]
        refine wpAnyH_take (i := 11) (v := ?v11_35) rfl (by kernel_rfl) (by kernel_rfl) (by kernel_rfl) (fun _ _ _ h => h) (Or.inl ⟨by rfl, ?y11_35⟩) hHeld ?r11_35
        case y11_35 => (intro w hSw; (try dsimp only at hSw); go_split_ands; go_simp; try with_reducible rfl)
        try simp only [List.getElem_toArray, List.getElem_cons_succ, List.getElem_cons_zero, Act.put, List.setIfInBounds_toArray, List.set_cons_zero, List.set_cons_succ]
        refine wpAnyH_take (i := 12) (v := ?v12_36) rfl (by kernel_rfl) (by kernel_rfl) (by kernel_rfl) (fun _ _ _ h => h) (Or.inl ⟨by rfl, ?y12_36⟩) hHeld ?r12_36
        case y12_36 => (intro w hSw; (try dsimp only at hSw); go_split_ands; go_simp; try with_reducible rfl)
        try simp only [List.getElem_toArray, List.getElem_cons_succ, List.getElem_cons_zero, Act.put, List.setIfInBounds_toArray, List.set_cons_zero, List.set_cons_succ]
        refine wpAnyH_take (i := 13) (v := ?v13_37) rfl (by kernel_rfl) (by kernel_rfl) (by kernel_rfl) (fun _ _ _ h => h) (Or.inl ⟨by rfl, ?y13_37⟩) hHeld ?r13_37
        case y13_37 => (intro w hSw; (try dsimp only at hSw); go_split_ands; go_simp; try with_reducible rfl)
        try simp only [List.getElem_toArray, List.getElem_cons_succ, List.getElem_cons_zero, Act.put, List.setIfInBounds_toArray, List.set_cons_zero, List.set_cons_succ]
        refine wpAnyH_take (i := 17) (v := ?v17_38) rfl (by kernel_rfl) (by kernel_rfl) (by kernel_rfl) (fun _ _ _ h => h) (Or.inl ⟨by rfl, ?y17_38⟩) hHeld ?r17_38
        case y17_38 => (intro w hSw; (try dsimp only at hSw); go_split_ands; go_simp; try with_reducible rfl)
        try simp only [List.getElem_toArray, List.getElem_cons_succ, List.getElem_cons_zero, Act.put, List.setIfInBounds_toArray, List.set_cons_zero, List.set_cons_succ]
        refine wpAnyH_take (i := 18) (v := ?v18_39) rfl (by kernel_rfl) (by kernel_rfl) (by kernel_rfl) (fun _ _ _ h => h) (Or.inl ⟨by rfl, ?y18_39⟩) hHeld ?r18_39
        case y18_39 => (intro w hSw; (try dsimp only at hSw); go_split_ands; go_simp; try with_reducible rfl)
        try simp only [List.getElem_toArray, List.getElem_cons_succ, List.getElem_cons_zero, Act.put, List.setIfInBounds_toArray, List.set_cons_zero, List.set_cons_succ]
        refine wpAnyH_take (i := 19) (v := ?v19_40) rfl (by kernel_rfl) (by kernel_rfl) (by kernel_rfl) (fun _ _ _ h => h) (Or.inl ⟨by rfl, ?y19_40⟩) hHeld ?r19_40
        case y19_40 => (intro w hSw; (try dsimp only at hSw); go_split_ands; go_simp; try with_reducible rfl)
        try simp only [List.getElem_toArray, List.getElem_cons_succ, List.getElem_cons_zero, Act.put, List.setIfInBounds_toArray, List.set_cons_zero, List.set_cons_succ]
        refine wpAnyH_take (i := 20) (v := ?v20_41) rfl (by kernel_rfl) (by kernel_rfl) (by kernel_rfl) (fun _ _ _ h => h) (Or.inl ⟨by rfl, ?y20_41⟩) hHeld ?r20_41
        case y20_41 => (intro w hSw; (try dsimp only at hSw); go_split_ands; go_simp; try with_reducible rfl)
        try simp only [List.getElem_toArray, List.getElem_cons_succ, List.getElem_cons_zero, Act.put, List.setIfInBounds_toArray, List.set_cons_zero, List.set_cons_succ]
        refine wpAnyH_take (i := 21) (v := ?v21_42) rfl (by kernel_rfl) (by kernel_rfl) (by kernel_rfl) (fun _ _ _ h => h) (Or.inl ⟨by rfl, ?y21_42⟩) hHeld ?r21_42
        case y21_42 => (intro w hSw; (try dsimp only at hSw); go_split_ands; go_simp; try with_reducible rfl)
        try simp only [List.getElem_toArray, List.getElem_cons_succ, List.getElem_cons_zero, Act.put, List.setIfInBounds_toArray, List.set_cons_zero, List.set_cons_succ]
        refine wpAnyH_ready (rs := [14]) (by kernel_rfl) (by simp) ?_
        refine AllReadyH.cons rfl (fun K hK => ?_) AllReadyH.nil
        have hHeld' := hHeld
        try dsimp only at hHeld'
        go_split_ands
        go_simp
        refine (DC.out).mono ?_
        rintro e w' ⟨rfl, hn⟩
        have hbz := hbD.out.tr hn
        have e0 := RK.out _ hbz 0 (by decide)
        have e1 := RK.out _ hbz 1 (by decide)
        simp only [List.getElem?_cons_succ, List.getElem?_cons_zero, Nat.add_zero, ← Nat.add_assoc] at e0 e1
        rw [hx'.out] at e0 e1
        simp only at e0 e1
        clear hn d0 d1
        replace hbz := Lib.hid hbz
        refine hK.out _ _ ?_ (fun hHeld => ?_)
        · exact ⟨e0, e1⟩
        clear hK K
        try simp only [List.getElem_toArray, List.getElem_cons_succ, List.getElem_cons_zero, Act.put, List.setIfInBounds_toArray, List.set_cons_zero, List.set_cons_succ]
        refine wpAnyH_take (i := 15) (v := ?v15_43) rfl (by kernel_rfl) (by kernel_rfl) (by kernel_rfl) (fun _ _ _ h => h) (Or.inl ⟨by rfl, ?y15_43⟩) hHeld ?r15_43
        case y15_43 => (intro w hSw; (try dsimp only at hSw); go_split_ands; go_simp; try with_reducible rfl)
        try simp only [List.getElem_toArray, List.getElem_cons_succ, List.getElem_cons_zero, Act.put, List.setIfInBounds_toArray, List.set_cons_zero, List.set_cons_succ]
        refine wpAnyH_take (i := 16) (v := ?v16_44) rfl (by kernel_rfl) (by kernel_rfl) (by kernel_rfl) (fun _ _ _ h => h) (Or.inl ⟨by rfl, ?y16_44⟩) hHeld ?r16_44
        case y16_44 => (intro w hSw; (try dsimp only at hSw); go_split_ands; go_simp; try with_reducible rfl)
        try simp only [List.getElem_toArray, List.getElem_cons_succ, List.getElem_cons_zero, Act.put, List.setIfInBounds_toArray, List.set_cons_zero, List.set_cons_succ]
        refine wpAnyH_take (i := 22) (v := ?v22_45) rfl (by kernel_rfl) (by kernel_rfl) (by kernel_rfl) (fun _ _ _ h => h) (Or.inl ⟨by rfl, ?y22_45⟩) hHeld ?r22_45
        case y22_45 => (intro w hSw; (try dsimp only at hSw); go_split_ands; go_simp; try with_reducible rfl)
        try simp only [List.getElem_toArray, List.getElem_cons_succ, List.getElem_cons_zero, Act.put, List.setIfInBounds_toArray, List.set_cons_zero, List.set_cons_succ]
        refine wpAnyH_take (i := 23) (v := ?v23_46) rfl (by kernel_rfl) (by kernel_rfl) (by kernel_rfl) (fun _ _ _ h => h) (Or.inl ⟨by rfl, ?y23_46⟩) hHeld ?r23_46
        case y23_46 => (intro w hSw; (try dsimp only at hSw); go_split_ands; go_simp; try with_reducible rfl)
        try simp only [List.getElem_toArray, List.getElem_cons_succ, List.getElem_cons_zero, Act.put, List.setIfInBounds_toArray, List.set_cons_zero, List.set_cons_succ]
        refine wpAnyH_done (by kernel_rfl) ?_ _
        clear e0 e1
        go_wp2_with fail
        go_roundw
        case rel => exact ⟨k + 1, by omega, by first | rfl | go_num, by rw [hst.out], hbz.out⟩
        case measure => simp [intOf] <;> omega
    · obtain rfl : k = A.length := by omega
      replace hbr := Lib.hid hbr
      go_wp2_with fail
      go_ret
      exact ⟨rfl, hbr.out⟩
end Go.Proofs.YtcbpagbalagllaaDoor.heads
