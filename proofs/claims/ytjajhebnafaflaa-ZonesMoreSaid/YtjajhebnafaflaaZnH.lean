/-
  Endpoints, and who is well, made of numbers.
-/
import Derived.Test.YtjajhebnafaflaaZnA
import Derived.Test.YtjajhebnafaflaaOwn
import Derived.Test.YtjajhebnafaflaaAround
namespace Go.Proofs.Ytjajhebnafaflaa.zones
open Go.ChangeShapes Go.WideShapes Go.ChangeAt Go.RowKit Go.Shelf
set_option linter.unusedVariables false
set_option linter.unusedSimpArgs false

theorem infoI' : (Try.prog.info? 3).map (fun i => (i.zero, i.size, i.bytes)) = some (some (I 0), 1, 8) := by kernel_rfl
def wellOk (Z : List Int) : Prop := Z.length ≤ 12 ∧ ∀ x ∈ Z, 1 ≤ x ∧ x ≤ 14
def IntsD (w : World) (P : List Int → Prop) : Ending → World → Prop := fun e w' => ∃ v Z, e = .returned v ∧ P Z ∧ w'.ownsRow w.heap.size 3 1 v Z.length (Z.map I) ∧ Bl w w'

set_option maxHeartbeats 2000000 in
theorem wellm_any (z0 : List Int) (v : Value) (w : World) (hv : IntsAt w v z0) (hz : i64ok z0) (hm : z0.length ≤ maxLen) : Calls Try.prog 10 #[v] w (IntsD w wellOk) := by
  obtain ⟨iu, hiu, zu0, zu1, zu2⟩ := info_parts infoI'
  obtain ⟨a, cap, rfl, RD⟩ := rd_any hv
  unfold maxLen at hm
  obtain ⟨N, hN⟩ : ∃ z_, (z0.length) = z_ := ⟨_, rfl⟩
  rw [hN] at RD hm ⊢
  have hzz : ∀ k, k < N → -9223372036854775808 ≤ z0.getD k 0 ∧ z0.getD k 0 ≤ 9223372036854775807 := fun k hk => hz _ (getD_mem z0 k 0 (by omega))
  have AR := Lib.hid (fun y w h1 h2 => around_any y 14 w h1 h2 (by omega) (by omega))
  replace RD := Lib.hid RD
  replace hzz := Lib.hid hzz
  clear hv hN hz
  unfold IntsD
  go_enter Try.func10, Try.ntmps10
  go_wp2_with fail
  go_loopw [3, 4] (fun o i wr => ∃ (k : Nat) (Z : List Int), k ≤ N ∧ k ≤ 12 ∧ i = I k ∧ Z.length = k ∧ (∀ x ∈ Z, 1 ≤ x ∧ x ≤ 14) ∧ wr.ownsRow w.heap.size 3 1 o k (Z.map I) ∧ Bl w wr) (fun _ i _ => N - (intOf i).toNat)
  case atStart => exact ⟨0, [], by omega, by omega, rfl, rfl, fun x hx => by simp at hx, World.ownsRow_nil _ _ _ _, Bl.rfl' _⟩
  case round =>
    obtain ⟨k, Z, hk, hk2, rfl, hZl, hZ, hown, hb⟩ := hrel
    by_cases hlt : k < N
    · have hd1 : decide ((k : Int) < (N : Int)) = true := decide_eq_true (by omega)
      by_cases hlt2 : k < 12
      · have hd2 : decide ((k : Int) < 12) = true := decide_eq_true (by omega)
        have wt : IntKind.i64.wrap ((k : Int) + 1) = ((k + 1 : Nat) : Int) := by rw [IntKind.wrap_i64]; omega
        obtain ⟨b, off, hbe, hce⟩ := RD.out wr hb k hlt
        cases hbe
        unfold icell at hce
        obtain ⟨y, hy⟩ : ∃ z_, (z0.getD k 0) = z_ := ⟨_, rfl⟩
        have hyb := hzz.out k hlt
        rw [hy] at hce hyb
        have A10 := AR.out y wr hyb.1 hyb.2
        have q0 := around_lo y 14 (by omega); have q1 := around_hi y 14 (by omega)
        obtain ⟨x, hx⟩ : ∃ z_, (around y 14) = z_ := ⟨_, rfl⟩
        rw [hx] at A10 q0 q1
        have w91 : IntKind.i64.wrap (1 + x) = 1 + x := by rw [IntKind.wrap_i64]; omega
        have hbs := hb.size
        clear hy hx hyb
        replace A10 := Lib.hid A10
        replace hown := Lib.hid hown
        replace hb := Lib.hid hb
        replace hZ := Lib.hid hZ
        go_wp2_with fail
        with_reducible refine (A10.out).mono ?_
        rintro e w' ⟨rfl, rfl⟩
        go_wp2_with (at_builtin; refine wpList_append_one rfl _ _ 22 rfl w.heap.size 3 iu (I 0) 8 Try.underlying22 hiu zu0 zu1 zu2 rfl _ k (Z.map I) rfl hown.out (I (1 + x)) _ rfl 1 (by first | rfl | simp [Act.eval, Act.put]) (by omega) (by omega) (by omega) ?_)
        intro b' cap' w7 hown' hgrow
        have hb7 := hb.out.grown hgrow (fun k hk => (hown.out.lt k hk).1)
        replace hown' := Lib.hid hown'
        replace hb7 := Lib.hid hb7
        go_wp2_with fail
        go_roundw
        case rel => exact ⟨k + 1, Z ++ [1 + x], by omega, by omega, by first | rfl | go_num, by rw [List.length_append, hZl]; rfl, fun u hu => (List.mem_append.1 hu).elim (hZ.out u) (fun hu => by simp at hu; omega), by rw [List.map_append]; exact hown'.out, hb7.out⟩
        case measure => simp [intOf] <;> omega
      · have hd2 : decide ((k : Int) < 12) = false := decide_eq_false (by omega)
        replace hown := Lib.hid hown
        replace hb := Lib.hid hb
        replace hZ := Lib.hid hZ
        go_wp2_with fail
        go_ret
        exact ⟨_, Z, rfl, ⟨by omega, hZ.out⟩, by rw [hZl]; exact hown.out, hb.out⟩
    · have hd1 : decide ((k : Int) < (N : Int)) = false := decide_eq_false (by omega)
      replace hown := Lib.hid hown
      replace hb := Lib.hid hb
      replace hZ := Lib.hid hZ
      go_wp2_with fail
      go_ret
      exact ⟨_, Z, rfl, ⟨by omega, hZ.out⟩, by rw [hZl]; exact hown.out, hb.out⟩

/-- Endpoints that may be. -/
structure EnOk (R : List En) : Prop where
  len : R.length ≤ 9
  rng : ∀ x ∈ R, 1 ≤ x.i ∧ x.i ≤ 12 ∧ 1 ≤ x.z ∧ x.z ≤ 3
  two : (R.map En.i).Nodup
def EndsD (w : World) : Ending → World → Prop := fun e w' => ∃ v R, e = .returned v ∧ EnOk R ∧ OwnB eB 3 35 w' w.heap.size v R ∧ Bl w w'
theorem infoE : (Try.prog.info? 35).map (fun i => (i.zero, i.size, i.bytes)) = some (some (.agg #[I 0, I 0, I 0]), 3, 24) := by kernel_rfl
def hadB (R : List En) (k : Nat) (i : Int) : Bool := (R.take k).any fun x => x.i == i
theorem had_succ (R : List En) (k : Nat) (i : Int) (h : k < R.length) : hadB R (k + 1) i = (hadB R k i || ((R.getD k e0).i == i)) := by
  unfold hadB
  rw [List.take_succ_eq_append_getElem h, List.any_append, List.getD, List.getElem?_eq_getElem h]
  simp
theorem had_all {R : List En} {i : Int} (h : hadB R R.length i = false) : i ∉ R.map En.i := by
  unfold hadB at h
  rw [List.take_length, List.any_eq_false] at h
  intro hm
  obtain ⟨x, hx, rfl⟩ := List.mem_map.1 hm
  exact h x hx (by simp)
theorem EnOk.snoc {R : List En} {i s z : Int} (h : EnOk R) (hl : R.length < 9) (i0 : 1 ≤ i) (i1 : i ≤ 12) (z0 : 1 ≤ z) (z1 : z ≤ 3) (hn : i ∉ R.map En.i) : EnOk (R ++ [⟨i, s, z⟩]) where
  len := by rw [List.length_append, List.length_singleton]; omega
  rng := fun x hx => by
    rcases List.mem_append.1 hx with hx | hx
    · exact h.rng x hx
    · simp at hx; subst hx; exact ⟨i0, i1, z0, z1⟩
  two := by
    rw [List.map_append, List.nodup_append]
    refine ⟨h.two, by simp, ?_⟩
    intro a ha b hb hab
    simp at hb
    subst hb
    subst hab
    exact hn ha

set_option maxRecDepth 20000 in
set_option maxHeartbeats 4000000 in
theorem ends_any (z0 : List Int) (v : Value) (w : World) (hv : IntsAt w v z0) (hz : i64ok z0) (hm : z0.length ≤ maxLen) : Calls Try.prog 9 #[v] w (EndsD w) := by
  obtain ⟨iu, hiu, zu0, zu1, zu2⟩ := info_parts infoE
  obtain ⟨a, cap, rfl, RD⟩ := rd_any hv
  unfold maxLen at hm
  obtain ⟨N, hN⟩ : ∃ z_, (z0.length) = z_ := ⟨_, rfl⟩
  rw [hN] at RD hm ⊢
  have hzz : ∀ k, k < N → -9223372036854775808 ≤ z0.getD k 0 ∧ z0.getD k 0 ≤ 9223372036854775807 := fun k hk => hz _ (getD_mem z0 k 0 (by omega))
  have AR := Lib.hid (fun y w h1 h2 => around_any y 1000 w h1 h2 (by omega) (by omega))
  replace RD := Lib.hid RD
  replace hzz := Lib.hid hzz
  clear hv hN hz
  unfold EndsD
  go_enter Try.func9, Try.ntmps9
  go_wp2_with fail
  go_loopw [3, 4, 5, 6, 7, 8] (fun o i _ _ _ _ wr => ∃ (k : Nat) (R : List En), k ≤ N ∧ k ≤ 9 ∧ i = I k ∧ R.length ≤ k ∧ EnOk R ∧ OwnB eB 3 35 wr w.heap.size o R ∧ Bl w wr) (fun _ i _ _ _ _ _ => N - (intOf i).toNat)
  case atStart => exact ⟨0, [], by omega, by omega, rfl, Nat.le_refl _, ⟨by simp, fun x hx => by simp at hx, by simp⟩, OwnB.nil _ _ _, Bl.rfl' _⟩
  case round =>
    obtain ⟨k, R, hk, hk2, rfl, hRl, hR, hown, hb⟩ := hrel
    by_cases hlt : k < N
    · have hd1 : decide ((k : Int) < (N : Int)) = true := decide_eq_true (by omega)
      by_cases hlt2 : k < 9
      · have hd2 : decide ((k : Int) < 9) = true := decide_eq_true (by omega)
        have wt : IntKind.i64.wrap ((k : Int) + 1) = ((k + 1 : Nat) : Int) := by rw [IntKind.wrap_i64]; omega
        obtain ⟨b, off, hbe, hce⟩ := RD.out wr hb k hlt
        cases hbe
        unfold icell at hce
        obtain ⟨y, hy⟩ : ∃ z_, (z0.getD k 0) = z_ := ⟨_, rfl⟩
        have hyb := hzz.out k hlt
        rw [hy] at hce hyb
        have A10 := AR.out y wr hyb.1 hyb.2
        have q0 := around_lo y 1000 (by omega); have q1 := around_hi y 1000 (by omega)
        obtain ⟨n, hn⟩ : ∃ z_, (around y 1000) = z_ := ⟨_, rfl⟩
        rw [hn] at A10 q0 q1
        have t12 : n.tmod 12 = n % 12 := Int.tmod_eq_emod_of_nonneg q0
        have d12 : n.tdiv 12 = n / 12 := Int.tdiv_eq_ediv_of_nonneg q0
        have t3 : (n / 12).tmod 3 = n / 12 % 3 := Int.tmod_eq_emod_of_nonneg (by omega)
        have m0 : 0 ≤ n % 12 := by omega
        have m1 : n % 12 ≤ 11 := by omega
        have z0' : 0 ≤ n / 12 % 3 := by omega
        have z1' : n / 12 % 3 ≤ 2 := by omega
        have dd0 : 0 ≤ n / 12 := by omega
        have dd1 : n / 12 ≤ 100 := by omega
        obtain ⟨i, hi⟩ : ∃ z_, (n % 12) = z_ := ⟨_, rfl⟩
        obtain ⟨q, hq⟩ : ∃ z_, (n / 12) = z_ := ⟨_, rfl⟩
        rw [hi] at t12 m0 m1
        rw [hq] at d12 t3 z0' z1' dd0 dd1
        obtain ⟨zz, hzz'⟩ : ∃ z_, (q % 3) = z_ := ⟨_, rfl⟩
        rw [hzz'] at t3 z0' z1'
        have w1 : IntKind.i64.wrap (n.tmod 12) = i := by rw [t12, IntKind.wrap_i64]; omega
        have w2 : IntKind.i64.wrap (n.tdiv 12) = q := by rw [d12, IntKind.wrap_i64]; omega
        have w3 : IntKind.i64.wrap (q.tmod 3) = zz := by rw [t3, IntKind.wrap_i64]; omega
        have w4 : IntKind.i64.wrap (1 + i) = 1 + i := by rw [IntKind.wrap_i64]; omega
        have w5 : IntKind.i64.wrap (1 + zz) = 1 + zz := by rw [IntKind.wrap_i64]; omega
        have hbs := hb.size
        obtain ⟨ra, rg, rcap, rfl, hrg, hrc, hrc2, hRR⟩ := OwnB.row hown (by decide)
        have hbr : Bl wr (wr.alloc (oE ⟨1 + i, 1, 1 + zz⟩)) := (Bl.rfl' wr).al _
        have hbox := heap_alloc_new wr (oE ⟨1 + i, 1, 1 + zz⟩)
        have hs := fun k hk => had_succ R k (1 + i) hk
        have h00 : hadB R 0 (1 + i) = false := rfl
        have hall := fun h => had_all (R := R) (i := 1 + i) h
        obtain ⟨T, hT⟩ : ∃ z_, (fun k => hadB R k (1 + i)) = z_ := ⟨_, rfl⟩
        have hT' : ∀ k, hadB R k (1 + i) = T k := fun k => congrFun hT k
        simp only [hT'] at hs h00 hall
        clear hy hn hyb t12 d12 t3 hq hT hT'
        replace A10 := Lib.hid A10
        replace hown := Lib.hid hown
        replace hb := Lib.hid hb
        replace hR := Lib.hid hR
        replace hs := Lib.hid hs
        replace h00 := Lib.hid h00
        replace hall := Lib.hid hall
        replace hRR := Lib.hid hRR
        go_wp2_with fail
        with_reducible refine (A10.out).mono ?_
        rintro e w' ⟨rfl, rfl⟩
        go_wp2_with fail
        rw [hi, hzz']
        clear hi hzz'
        obtain ⟨W0, hW0⟩ : ∃ W0, wr.alloc (oE ⟨1 + i, 1, 1 + zz⟩) = W0 := ⟨_, rfl⟩
        have hW0' : wr.alloc (.cells #[.int .i64 (1 + i), .int .i64 1, .int .i64 (1 + zz)] 35) = W0 := hW0
        rw [hW0] at hbr hbox
        rw [hW0']
        clear hW0 hW0'
        have BX := Lib.hid (fun X (h : Bl W0 X) => three (x := ⟨1 + i, 1, 1 + zz⟩) (blk_bl hbox h))
        have RC := Lib.hid (fun X (h : Bl W0 X) j hj => (hRR.out.bl (hbr.tr h)).c0 eB_len e0 j hj)
        have hb0 := Lib.hid (hb.out.tr hbr)
        replace hbox := Lib.hid hbox
        replace hbr := Lib.hid hbr
        go_loopw [7, 8] (fun h j wi => ∃ m : Nat, m ≤ R.length ∧ j = I m ∧ h = .bool (T m) ∧ Bl W0 wi) (fun _ j _ => R.length - (intOf j).toNat)
        case atStart => exact ⟨0, by omega, rfl, by rw [h00.out], Bl.rfl' _⟩
        case round =>
          obtain ⟨m, hm, rfl, rfl, hbi⟩ := hrel
          by_cases hml : m < R.length
          · have wt2 : IntKind.i64.wrap ((m : Int) + 1) = ((m + 1 : Nat) : Int) := by rw [IntKind.wrap_i64]; omega
            have hd3 : decide ((m : Int) < (R.length : Int)) = true := decide_eq_true (by omega)
            have hsm := hs.out m hml
            obtain ⟨t, ht⟩ : ∃ z_, (T m) = z_ := ⟨_, rfl⟩
            rw [ht] at hsm ⊢
            cases t with
            | true =>
              rw [Bool.true_or] at hsm
              clear ht
              replace hbi := Lib.hid hbi
              replace hsm := Lib.hid hsm
              go_wp2_with fail
              go_quiet (fail)
              have hq := hbi.out.drn nq
              replace hq := Lib.hid hq
              go_wp2_with fail
              go_roundw
              case rel => exact ⟨m + 1, by omega, by first | rfl | go_num, by rw [hsm.out], hq.out⟩
              case measure => simp [intOf] <;> omega
            | false =>
              rw [Bool.false_or] at hsm
              have R0 := fun X (h : Bl W0 X) => RC.out X h m hml
              obtain ⟨x, hx⟩ : ∃ z_, (R.getD m e0) = z_ := ⟨_, rfl⟩
              rw [hx] at hsm
              simp only [hx] at R0
              obtain ⟨xi, xs, xz⟩ := x
              dsimp only at hsm
              obtain ⟨f, hf⟩ : ∃ z_, (xi == 1 + i) = z_ := ⟨_, rfl⟩
              rw [hf] at hsm
              have rr := fun n => R0 _ (hbi.drn n)
              have bb := fun n => BX.out _ (hbi.drn n)
              obtain ⟨hra, -⟩ := rr 0
              subst hra
              have r0 := fun n => (rr n).2 0 (by decide)
              have b0 := fun n => (bb n).1
              simp only [List.getElem?_cons_succ, List.getElem?_cons_zero, Nat.add_zero, ← Nat.add_assoc] at r0
              clear ht hx R0 rr bb
              replace hbi := Lib.hid hbi
              replace hsm := Lib.hid hsm
              go_wp2_with fail
              go_quiet (fail)
              have hq := hbi.out.drn nq
              replace hq := Lib.hid hq
              go_wp2_with fail
              go_roundw
              case rel => exact ⟨m + 1, by omega, by first | rfl | go_num, by rw [hsm.out], hq.out⟩
              case measure => simp [intOf] <;> omega
          · obtain rfl : m = R.length := by omega
            have hd3 : decide ((R.length : Int) < (R.length : Int)) = false := decide_eq_false (by omega)
            have hb1 := hb0.out.tr hbi
            have hbw := hbr.out.tr hbi
            have ho1 := (OwnB.bl hown.out hbw)
            obtain ⟨x0, x1, x2⟩ := BX.out _ hbi
            have hal := hall.out
            obtain ⟨t, ht⟩ : ∃ z_, (T R.length) = z_ := ⟨_, rfl⟩
            rw [ht] at hal ⊢
            clear ht
            cases t with
            | true =>
              replace hb1 := Lib.hid hb1
              replace ho1 := Lib.hid ho1
              go_wp2_with fail
              go_roundw
              case rel => exact ⟨k + 1, R, by omega, by omega, by first | rfl | go_num, by omega, hR.out, ho1.out, hb1.out⟩
              case measure => simp [intOf] <;> omega
            | false =>
              have hok := hR.out.snoc (s := 1) (show R.length < 9 by omega) (i := 1 + i) (z := 1 + zz) (by omega) (by omega) (by omega) (by omega) (hal rfl)
              have hbs1 := hb1.size
              unfold OwnB at ho1
              replace hb1 := Lib.hid hb1
              replace ho1 := Lib.hid ho1
              replace hok := Lib.hid hok
              clear hal
              go_wp2_with (at_builtin; refine wpList_append_rec rfl _ _ 23 rfl w.heap.size 35 iu (.agg #[I 0, I 0, I 0]) 3 24 Try.underlying23 hiu zu0 zu1 zu2 rfl (by decide) _ R.length (flatB eB R) rfl ho1.out #[I (1 + i), I 1, I (1 + zz)] _ rfl (by intro u hu; simp at hu; rcases hu with rfl | rfl | rfl <;> rfl) 1 (by first | rfl | simp [Act.eval, Act.put]) (by omega) (by omega) (by omega) ?_)
              intro b' cap' w7 hown' hgrow hbn
              have hb7 := hb1.out.grown hgrow (fun k hk => (ho1.out.lt k hk).1)
              replace hown' := Lib.hid hown'
              replace hb7 := Lib.hid hb7
              go_wp2_with fail
              go_roundw
              case rel => exact ⟨k + 1, R ++ [⟨1 + i, 1, 1 + zz⟩], by omega, by omega, by first | rfl | go_num, by rw [List.length_append, List.length_singleton]; omega, hok.out, by unfold OwnB; rw [List.length_append, List.length_singleton, flatB_snoc]; exact hown'.out, hb7.out⟩
              case measure => simp [intOf] <;> omega
      · have hd2 : decide ((k : Int) < 9) = false := decide_eq_false (by omega)
        replace hown := Lib.hid hown
        replace hb := Lib.hid hb
        replace hR := Lib.hid hR
        go_wp2_with fail
        go_ret
        exact ⟨_, R, rfl, hR.out, hown.out, hb.out⟩
    · have hd1 : decide ((k : Int) < (N : Int)) = false := decide_eq_false (by omega)
      replace hown := Lib.hid hown
      replace hb := Lib.hid hb
      replace hR := Lib.hid hR
      go_wp2_with fail
      go_ret
      exact ⟨_, R, rfl, hR.out, hown.out, hb.out⟩
end Go.Proofs.Ytjajhebnafaflaa.zones
