/-
  Package heads: Print.
-/
import Derived.Test.YtcbpagbalagllaaDoorHdF
import Derived.Deep.OwnRows
namespace Go.Proofs.YtcbpagbalagllaaDoor.heads
open Go.ChangeShapes Go.WideShapes Go.ChangeAt Go.RowKit
set_option linter.unusedVariables false
set_option linter.unusedSimpArgs false

abbrev colon : ByteArray := ⟨#[58]⟩
abbrev blank : ByteArray := ⟨#[32]⟩
def digs (n : Nat) : ByteArray := ⟨(Lib.decDigits n).toArray⟩
def wordF (x : Hd) : ByteArray := x.n ++ colon ++ digs x.v.size ++ colon ++ x.v
def joinF (W : List ByteArray) : ByteArray := ⟨(Lib.join (W.map (·.data.toList)) blank.data.toList).toArray⟩
def printF (A : List Hd) : ByteArray := joinF (A.map wordF)
/-- The first k words are written. -/
def arrW (W : List ByteArray) (k : Nat) : Array Value := ((W.take k).map S ++ List.replicate (W.length - k) (S ByteArray.empty)).toArray
theorem arrW_set (W : List ByteArray) (k : Nat) (h : k < W.length) : (arrW W k).setIfInBounds k (S (W.getD k ByteArray.empty)) = arrW W (k + 1) := by
  unfold arrW
  rw [List.setIfInBounds_toArray]
  congr 1
  have h1 : ((W.take k).map S).length = k := by rw [List.length_map, List.length_take]; omega
  rw [List.set_append_right _ _ (by omega), h1, Nat.sub_self, show W.length - k = (W.length - (k + 1)) + 1 by omega, List.replicate_succ, List.set_cons_zero, List.take_succ_eq_append_getElem h, List.map_append, List.append_assoc, List.getD_eq_getElem?_getD, List.getElem?_eq_getElem h]
  rfl
theorem arrW_zero (W : List ByteArray) : arrW W 0 = Array.replicate W.length (S ByteArray.empty) := by
  unfold arrW; simp
theorem arrW_all (W : List ByteArray) (j : Nat) (x : ByteArray) (h : W[j]? = some x) : (arrW W W.length)[j]? = some (S x) := by
  unfold arrW
  simp [h]
theorem arrW_at (W : List ByteArray) (k : Nat) (h : k < W.length) : (arrW W k)[k]? = some (S ByteArray.empty) := by
  unfold arrW
  have h1 : ((W.take k).map S).length = k := by rw [List.length_map, List.length_take]; omega
  rw [List.getElem?_toArray, List.getElem?_append_right (by omega), h1, Nat.sub_self, show W.length - k = (W.length - (k + 1)) + 1 by omega, List.replicate_succ]
  rfl
theorem digs_size : ∀ n, n < 100 → (digs n).size ≤ 2 := by decide +kernel
theorem tail_len (sep : List UInt8) (m : Nat) : ∀ r : List (List UInt8), (∀ x ∈ r, x.length ≤ m) → (Lib.joinTail sep r).length ≤ r.length * (sep.length + m)
  | [], _ => by simp [Lib.joinTail]
  | x :: r, h => by
    have ih := tail_len sep m r (fun y hy => h y (by simp [hy]))
    have hx := h x (by simp)
    unfold Lib.joinTail at ih ⊢
    rw [List.map_cons, List.flatten_cons, List.length_append, List.length_append, List.length_cons, Nat.succ_mul]
    omega
theorem join_len (sep : List UInt8) (m : Nat) (r : List (List UInt8)) (h : ∀ x ∈ r, x.length ≤ m) : (Lib.join r sep).length ≤ r.length * (sep.length + m) := by
  cases r with
  | nil => simp [Lib.join_nil]
  | cons x r =>
    have ih := tail_len sep m r (fun y hy => h y (by simp [hy]))
    have hx := h x (by simp)
    rw [Lib.join_cons, List.length_append, List.length_cons, Nat.succ_mul]
    omega
theorem word_size (x : Hd) (h : x.n.size ≤ 1000 ∧ x.v.size < 100) : (wordF x).size ≤ 1200 := by
  have hd := digs_size x.v.size h.2
  unfold wordF
  simp only [ByteArray.size_append]
  have hc : colon.size = 1 := rfl
  omega
theorem infoS : (Tryd.prog.info? 9).map (fun i => (i.zero, i.size, i.bytes)) = some (some (S ByteArray.empty), 1, 16) := by kernel_rfl
set_option maxRecDepth 20000 in
set_option maxHeartbeats 4000000 in
theorem print_any (v : Value) (A : List Hd) (w : World) (hv : HeadsAt w v A) (hl : A.length ≤ 100) (hf : ∀ x ∈ A, x.n.size ≤ 1000 ∧ x.v.size < 100) :
    Calls Tryd.prog 29 #[v] w fun e w' => e = .returned (S (printF A)) ∧ Bl w w' := by
  obtain ⟨ba, bg, bo, bcap, rfl, b1, b2, br⟩ := hv
  have RC := Lib.hid (fun w' (hb : Bl w w') i hi => (br.bl hb).c hB_len h0 i hi)
  have ff := fun k (hk : k < A.length) => hf (A.getD k h0) (by rw [List.getD_eq_getElem?_getD, List.getElem?_eq_getElem hk]; exact List.getElem_mem _)
  have hmk : ∀ w, Sem.run Tryd.prog (Instr.makeSlice 36 (.int .i64 A.length) (.int .i64 A.length)) w = .ok (.slice (some ⟨w.heap.size, 0, none⟩) A.length A.length) (w.alloc (.cells (arrW (A.map wordF) 0) 9)) := fun w => by
    have h := run_make_row' (P := Tryd.prog) 36 9 (S ByteArray.empty) 16 Tryd.underlying36 infoS rfl .i64 .i64 A.length (by omega) (by omega) w
    have hmc : madeCells #[S ByteArray.empty] A.length = arrW (A.map wordF) 0 := by
      rw [arrW_zero, List.length_map]
      exact Array.ext (by simp [madeCells]) (fun i h1 h2 => by simp [madeCells, Nat.mod_one])
    rw [hmc] at h
    exact h
  have hW := fun k (hk : k < A.length) => (by
    rw [List.getD_eq_getElem?_getD, List.getD_eq_getElem?_getD, List.getElem?_map, List.getElem?_eq_getElem hk]; rfl : (A.map wordF).getD k ByteArray.empty = wordF (A.getD k h0))
  have hWl : (A.map wordF).length = A.length := List.length_map _
  have hws := fun k (hk : k < A.length) => arrW_set (A.map wordF) k (by rw [hWl]; exact hk)
  have hwa := fun k (hk : k < A.length) => arrW_at (A.map wordF) k (by rw [hWl]; exact hk)
  have hall := arrW_all (A.map wordF)
  rw [hWl] at hall
  have hpr : printF A = joinF (A.map wordF) := rfl
  rw [hpr]
  have hjl : (Lib.join ((A.map wordF).map (·.data.toList)) blank.data.toList).length ≤ 140737488355328 := by
    refine Nat.le_trans (join_len _ 1200 _ (fun l hl => ?_)) ?_
    · obtain ⟨t, ht, rfl⟩ := List.mem_map.1 hl
      obtain ⟨x, hx, rfl⟩ := List.mem_map.1 ht
      exact word_size x (hf x hx)
    · rw [List.length_map, List.length_map]
      have h1 : blank.data.toList.length = 1 := rfl
      rw [h1]
      omega
  obtain ⟨Ws, hWs⟩ : ∃ z_, (A.map wordF) = z_ := ⟨_, rfl⟩
  rw [hWs] at hmk hWl hall hjl ⊢
  simp only [hWs] at hW hws hwa
  have hb0 := (Bl.rfl' w).al (.cells (arrW Ws 0) 9)
  have ho0 := heap_alloc_new w (.cells (arrW Ws 0) 9)
  clear br hf hWs hpr
  replace ff := Lib.hid ff
  replace hW := Lib.hid hW
  replace hws := Lib.hid hws
  replace hwa := Lib.hid hwa
  replace hall := Lib.hid hall
  replace hb0 := Lib.hid hb0
  replace ho0 := Lib.hid ho0
  replace hWl := Lib.hid hWl
  replace hjl := Lib.hid hjl
  go_enter Tryd.func29, Tryd.ntmps29
  go_wp2_with fail
  obtain ⟨yw, hyw⟩ : ∃ z_, (w.heap.size) = z_ := ⟨_, rfl⟩
  obtain ⟨w0, hw0⟩ : ∃ z_, (w.alloc (.cells (arrW Ws 0) 9)) = z_ := ⟨_, rfl⟩
  rw [hyw, hw0] at ho0
  rw [hw0] at hb0
  rw [hyw, hw0]
  clear hmk hw0
  go_loopw [11] (fun i wr => ∃ k : Nat, k ≤ A.length ∧ i = I k ∧ wr.heap[yw]? = some (.cells (arrW Ws k) 9 (0, 0)) ∧ Bl w wr) (fun i _ => A.length - (intOf i).toNat)
  case atStart => exact ⟨0, by omega, rfl, ho0.out, hb0.out⟩
  case round =>
    obtain ⟨k, hk, rfl, hwr, hbr⟩ := hrel
    by_cases hlt : k < A.length
    · obtain ⟨ha, hcc⟩ := RC.out _ hbr k hlt
      subst ha
      have c0 := hcc 0 (by decide)
      have c1 := hcc 1 (by decide)
      simp only [List.getElem?_cons_succ, List.getElem?_cons_zero, Nat.add_zero, ← Nat.add_assoc] at c0 c1
      have f1 := ff.out k hlt
      have w1 := hW.out k hlt
      have w2 := hws.out k hlt
      have w3 := hwa.out k hlt
      rw [w1] at w2
      clear w1
      obtain ⟨x, hx⟩ : ∃ z_, (A.getD k h0) = z_ := ⟨_, rfl⟩
      rw [hx] at c0 c1 w2 f1
      obtain ⟨n, u⟩ := x
      simp only at c0 c1 f1
      obtain ⟨f1, f2⟩ := f1
      have hdg := digs_size u.size f2
      have wk : IntKind.i64.wrap ((k : Int) + 1) = ((k + 1 : Nat) : Int) := by rw [IntKind.wrap_i64]; omega
      have hal := ((Bl.rfl' wr).al (oH ⟨n, u⟩)).dr
      have hX := blk_bl (heap_alloc_new wr (oH ⟨n, u⟩)) (Bl.rfl' (wr.alloc (oH ⟨n, u⟩))).dr
      have hWD := blk_bl hwr hal
      have hbD := hbr.tr hal
      have IT := Tryd.strconv_Itoa_small u.size f2 (wr.alloc (oH ⟨n, u⟩)).drew
      have hdd : (⟨(Lib.decDigits u.size).toArray⟩ : ByteArray) = digs u.size := rfl
      rw [hdd] at IT
      have hwf : wordF ⟨n, u⟩ = n ++ colon ++ digs u.size ++ colon ++ u := rfl
      rw [hwf] at w2
      obtain ⟨dg, hdg'⟩ : ∃ z_, (digs u.size) = z_ := ⟨_, rfl⟩
      rw [hdg'] at hdg IT w2
      have s1 : (n ++ colon).size = n.size + 1 := by rw [ByteArray.size_append]; rfl
      have a1 : ∀ w, (Op.stringOp .add n ⟨#[58]⟩).run Tryd.prog w = .ok (.string (n ++ colon)) w := fun w => run_string_add_sum w n colon (by have : colon.size = 1 := rfl; omega)
      obtain ⟨p1, hp1⟩ : ∃ z_, (n ++ colon) = z_ := ⟨_, rfl⟩
      simp only [hp1] at a1 w2 s1
      have s2 : (p1 ++ dg).size = p1.size + dg.size := ByteArray.size_append
      have a2 : ∀ w, (Op.stringOp .add p1 dg).run Tryd.prog w = .ok (.string (p1 ++ dg)) w := fun w => run_string_add_sum w p1 dg (by omega)
      obtain ⟨p2, hp2⟩ : ∃ z_, (p1 ++ dg) = z_ := ⟨_, rfl⟩
      simp only [hp2] at a2 w2 s2
      have s3 : (p2 ++ colon).size = p2.size + 1 := by rw [ByteArray.size_append]; rfl
      have a3 : ∀ w, (Op.stringOp .add p2 ⟨#[58]⟩).run Tryd.prog w = .ok (.string (p2 ++ colon)) w := fun w => run_string_add_sum w p2 colon (by have : colon.size = 1 := rfl; omega)
      obtain ⟨p3, hp3⟩ : ∃ z_, (p2 ++ colon) = z_ := ⟨_, rfl⟩
      simp only [hp3] at a3 w2 s3
      have a4 : ∀ w, (Op.stringOp .add p3 u).run Tryd.prog w = .ok (.string (p3 ++ u)) w := fun w => run_string_add_sum w p3 u (by omega)
      obtain ⟨p4, hp4⟩ : ∃ z_, (p3 ++ u) = z_ := ⟨_, rfl⟩
      simp only [hp4] at a4 w2
      have hbx : Bl wr (wr.alloc (oH ⟨n, u⟩)) := (Bl.rfl' wr).al _
      have b0 := cell_at (heap_alloc_new wr (oH ⟨n, u⟩)) 0
      have b1' := cell_at (heap_alloc_new wr (oH ⟨n, u⟩)) 1
      simp only [List.getElem?_toArray, List.getElem?_cons_succ, List.getElem?_cons_zero] at b0 b1'
      have q := cell_at hWD k
      rw [w3] at q
      have qf := free_at hWD k
      have hWA := blk_bl hwr hbx
      have hW7 := set_at k (S p4) hWA
      rw [w2] at hW7
      have hg7 := gby_set (wr.alloc (oH ⟨n, u⟩)) yw k (S p4)
      have hX7 := blk_gby (heap_alloc_new wr (oH ⟨n, u⟩)) hg7 (by have := lt_of_block hwr; omega)
      have hb7 := ((hbr.tr hbx).grown hg7 (fun q hq => by cases hq; omega)).dr
      replace hW7 := blk_bl hW7 (Bl.rfl' _).dr
      replace hX7 := blk_bl hX7 (Bl.rfl' _).dr
      clear hcc hx w2 w3 s1 s2 s3 hp1 hp2 hp3 hp4 hwf hdd hdg' hdg hwr hWA hg7
      replace hX := Lib.hid hX
      replace hWD := Lib.hid hWD
      replace hbD := Lib.hid hbD
      replace IT := Lib.hid IT
      replace hW7 := Lib.hid hW7
      replace hX7 := Lib.hid hX7
      replace hb7 := Lib.hid hb7
      replace hbx := Lib.hid hbx
      replace hal := Lib.hid hal
      replace hbr := Lib.hid hbr
      go_wp2_with fail
      refine wp_region_held_drew (S := fun w' => w'.cell? ⟨wr.heap.size, 0, none⟩ = some (S n) ∧ w'.cell? ⟨wr.heap.size, 1, none⟩ = some (S u)) (by kernel_rfl) ?_ (fun hHeld => ?_)
      · exact ⟨cell_at hX.out 0, cell_at hX.out 1⟩
      refine wpAnyH_take (i := 0) (v := ?v0_1) rfl (by kernel_rfl) (by kernel_rfl) (by kernel_rfl) (fun _ _ _ h => h) (Or.inl ⟨by rfl, ?y0_1⟩) hHeld ?r0_1
      case y0_1 => (intro w hSw; (try dsimp only at hSw); go_split_ands; go_simp; try with_reducible rfl)
      try simp only [List.getElem_toArray, List.getElem_cons_succ, List.getElem_cons_zero, Act.put, List.setIfInBounds_toArray, List.set_cons_zero, List.set_cons_succ]
      refine wpAnyH_take (i := 1) (v := ?v1_2) rfl (by kernel_rfl) (by kernel_rfl) (by kernel_rfl) (fun _ _ _ h => h) (Or.inl ⟨by rfl, ?y1_2⟩) hHeld ?r1_2
      case y1_2 => (intro w hSw; (try dsimp only at hSw); go_split_ands; go_simp; try with_reducible rfl)
      try simp only [List.getElem_toArray, List.getElem_cons_succ, List.getElem_cons_zero, Act.put, List.setIfInBounds_toArray, List.set_cons_zero, List.set_cons_succ]
      refine wpAnyH_take (i := 2) (v := ?v2_3) rfl (by kernel_rfl) (by kernel_rfl) (by kernel_rfl) (fun _ _ _ h => h) (Or.inl ⟨by rfl, ?y2_3⟩) hHeld ?r2_3
      case y2_3 => (intro w hSw; (try dsimp only at hSw); go_split_ands; go_simp; try with_reducible rfl)
      try simp only [List.getElem_toArray, List.getElem_cons_succ, List.getElem_cons_zero, Act.put, List.setIfInBounds_toArray, List.set_cons_zero, List.set_cons_succ]
      refine wpAnyH_take (i := 3) (v := ?v3_4) rfl (by kernel_rfl) (by kernel_rfl) (by kernel_rfl) (fun _ _ _ h => h) (Or.inl ⟨by rfl, ?y3_4⟩) hHeld ?r3_4
      case y3_4 => (intro w hSw; (try dsimp only at hSw); go_split_ands; go_simp; try with_reducible rfl)
      try simp only [List.getElem_toArray, List.getElem_cons_succ, List.getElem_cons_zero, Act.put, List.setIfInBounds_toArray, List.set_cons_zero, List.set_cons_succ]
      refine wpAnyH_take (i := 4) (v := ?v4_5) rfl (by kernel_rfl) (by kernel_rfl) (by kernel_rfl) (fun _ _ _ h => h) (Or.inl ⟨by rfl, ?y4_5⟩) hHeld ?r4_5
      case y4_5 => (intro w hSw; (try dsimp only at hSw); go_split_ands; go_simp; try with_reducible rfl)
      try simp only [List.getElem_toArray, List.getElem_cons_succ, List.getElem_cons_zero, Act.put, List.setIfInBounds_toArray, List.set_cons_zero, List.set_cons_succ]
      refine wpAnyH_take (i := 5) (v := ?v5_6) rfl (by kernel_rfl) (by kernel_rfl) (by kernel_rfl) (fun _ _ _ h => h) (Or.inl ⟨by rfl, ?y5_6⟩) hHeld ?r5_6
      case y5_6 => (intro w hSw; (try dsimp only at hSw); go_split_ands; go_simp; try with_reducible rfl)
      try simp only [List.getElem_toArray, List.getElem_cons_succ, List.getElem_cons_zero, Act.put, List.setIfInBounds_toArray, List.set_cons_zero, List.set_cons_succ]
      refine wpAnyH_take (i := 6) (v := ?v6_7) rfl (by kernel_rfl) (by kernel_rfl) (by kernel_rfl) (fun _ _ _ h => h) (Or.inl ⟨by rfl, ?y6_7⟩) hHeld ?r6_7
      case y6_7 => (intro w hSw; (try dsimp only at hSw); go_split_ands; go_simp; try with_reducible rfl)
      try simp only [List.getElem_toArray, List.getElem_cons_succ, List.getElem_cons_zero, Act.put, List.setIfInBounds_toArray, List.set_cons_zero, List.set_cons_succ]
      refine wpAnyH_take (i := 7) (v := ?v7_8) rfl (by kernel_rfl) (by kernel_rfl) (by kernel_rfl) (fun _ _ _ h => h) (Or.inl ⟨by rfl, ?y7_8⟩) hHeld ?r7_8
      case y7_8 => (intro w hSw; (try dsimp only at hSw); go_split_ands; go_simp; try with_reducible rfl)
      try simp only [List.getElem_toArray, List.getElem_cons_succ, List.getElem_cons_zero, Act.put, List.setIfInBounds_toArray, List.set_cons_zero, List.set_cons_succ]
      refine wpAnyH_take (i := 11) (v := ?v11_9) rfl (by kernel_rfl) (by kernel_rfl) (by kernel_rfl) (fun _ _ _ h => h) (Or.inl ⟨by rfl, ?y11_9⟩) hHeld ?r11_9
      case y11_9 => (intro w hSw; (try dsimp only at hSw); go_split_ands; go_simp; try with_reducible rfl)
      try simp only [List.getElem_toArray, List.getElem_cons_succ, List.getElem_cons_zero, Act.put, List.setIfInBounds_toArray, List.set_cons_zero, List.set_cons_succ]
      refine wpAnyH_take (i := 12) (v := ?v12_10) rfl (by kernel_rfl) (by kernel_rfl) (by kernel_rfl) (fun _ _ _ h => h) (Or.inl ⟨by rfl, ?y12_10⟩) hHeld ?r12_10
      case y12_10 => (intro w hSw; (try dsimp only at hSw); go_split_ands; go_simp; try with_reducible rfl)
      try simp only [List.getElem_toArray, List.getElem_cons_succ, List.getElem_cons_zero, Act.put, List.setIfInBounds_toArray, List.set_cons_zero, List.set_cons_succ]
      refine wpAnyH_ready (rs := [8]) (by kernel_rfl) (by simp) ?_
      refine AllReadyH.cons rfl (fun K hK => ?_) AllReadyH.nil
      have hHeld' := hHeld
      try dsimp only at hHeld'
      go_split_ands
      go_simp
      refine (IT.out).mono ?_
      rintro e w' ⟨rfl, rfl⟩
      refine hK.out _ _ ?_ (fun hHeld => ?_)
      · exact ⟨cell_at hX.out 0, cell_at hX.out 1⟩
      clear hK K
      try simp only [List.getElem_toArray, List.getElem_cons_succ, List.getElem_cons_zero, Act.put, List.setIfInBounds_toArray, List.set_cons_zero, List.set_cons_succ]
      refine wpAnyH_take (i := 9) (v := ?v9_11) rfl (by kernel_rfl) (by kernel_rfl) (by kernel_rfl) (fun _ _ _ h => h) (Or.inl ⟨by rfl, ?y9_11⟩) hHeld ?r9_11
      case y9_11 => (intro w hSw; (try dsimp only at hSw); go_split_ands; go_simp; try with_reducible rfl)
      try simp only [List.getElem_toArray, List.getElem_cons_succ, List.getElem_cons_zero, Act.put, List.setIfInBounds_toArray, List.set_cons_zero, List.set_cons_succ]
      refine wpAnyH_take (i := 10) (v := ?v10_12) rfl (by kernel_rfl) (by kernel_rfl) (by kernel_rfl) (fun _ _ _ h => h) (Or.inl ⟨by rfl, ?y10_12⟩) hHeld ?r10_12
      case y10_12 => (intro w hSw; (try dsimp only at hSw); go_split_ands; go_simp; try with_reducible rfl)
      try simp only [List.getElem_toArray, List.getElem_cons_succ, List.getElem_cons_zero, Act.put, List.setIfInBounds_toArray, List.set_cons_zero, List.set_cons_succ]
      refine wpAnyH_take (i := 13) (v := ?v13_13) rfl (by kernel_rfl) (by kernel_rfl) (by kernel_rfl) (fun _ _ _ h => h) (Or.inl ⟨by rfl, ?y13_13⟩) hHeld ?r13_13
      case y13_13 => (intro w hSw; (try dsimp only at hSw); go_split_ands; go_simp; try with_reducible rfl)
      try simp only [List.getElem_toArray, List.getElem_cons_succ, List.getElem_cons_zero, Act.put, List.setIfInBounds_toArray, List.set_cons_zero, List.set_cons_succ]
      refine wpAnyH_take (i := 14) (v := ?v14_14) rfl (by kernel_rfl) (by kernel_rfl) (by kernel_rfl) (fun _ _ _ h => h) (Or.inl ⟨by rfl, ?y14_14⟩) hHeld ?r14_14
      case y14_14 => (intro w hSw; (try dsimp only at hSw); go_split_ands; go_simp; try with_reducible rfl)
      try simp only [List.getElem_toArray, List.getElem_cons_succ, List.getElem_cons_zero, Act.put, List.setIfInBounds_toArray, List.set_cons_zero, List.set_cons_succ]
      refine wpAnyH_ready (rs := [15]) (by kernel_rfl) (by simp) ?_
      refine AllReadyH.cons rfl (fun K hK => ?_) AllReadyH.nil
      have hHeld' := hHeld
      try dsimp only at hHeld'
      go_split_ands
      go_simp
      refine hK.out _ _ ?_ (fun hHeld => ?_)
      · exact ⟨cell_at hX7.out 0, cell_at hX7.out 1⟩
      clear hK K
      try simp only [List.getElem_toArray, List.getElem_cons_succ, List.getElem_cons_zero, Act.put, List.setIfInBounds_toArray, List.set_cons_zero, List.set_cons_succ]
      refine wpAnyH_done (by kernel_rfl) ?_ _
      go_wp2_with fail
      go_roundw
      case rel => exact ⟨k + 1, by omega, by first | rfl | go_num, hW7.out, hb7.out⟩
      case measure => simp [intOf] <;> omega
    · obtain rfl : k = A.length := by omega
      have JN := Tryd.strings_Join yw 0 A.length Ws blank wr (fun j x hj => by rw [Nat.zero_add, cell_at hwr]; exact hall.out j x hj) (lt_of_block hwr) (by have := hWl.out; omega) (by have := hWl.out; omega) hjl.out
      rw [hWl.out] at JN
      have hjf : (⟨(Lib.join (Ws.map (·.data.toList)) blank.data.toList).toArray⟩ : ByteArray) = joinF Ws := rfl
      rw [hjf] at JN
      clear hjf hwr
      replace JN := Lib.hid JN
      replace hbr := Lib.hid hbr
      go_wp2_with fail
      with_reducible refine (JN.out).mono ?_
      rintro e w' ⟨rfl, hn⟩
      have hbz := hbr.out.tr hn
      clear hn
      replace hbz := Lib.hid hbz
      go_wp2_with fail
      go_ret
      exact ⟨rfl, hbz.out⟩
end Go.Proofs.YtcbpagbalagllaaDoor.heads
