/-
  The document's Home, Panic and Among.
-/
import Derived.Test.YtjajhebnafaflaaZnL
namespace Go.Proofs.Ytjajhebnafaflaa.zones
open Go.ChangeShapes Go.WideShapes Go.ChangeAt Go.RowKit Go.Shelf
set_option linter.unusedVariables false
set_option linter.unusedSimpArgs false

theorem idL_len (R : List En) (Z : List Int) (z : Int) (h al : Bool) : ((idL R Z z h al).length : Int) = cntZ (idP Z z h al) R := by
  unfold idL cntZ; rw [srt_len]
theorem id_both (R : List En) (Z : List Int) (z : Int) : cntZ (idP Z z true false) R = cntZ (bothF z Z) R := cnt_congr fun x _ => by simp [idP, bothF, hereF, wellF]
theorem id_far (R : List En) (Z : List Int) (z : Int) : cntZ (idP Z z false false) R = cntZ (farF z Z) R := cnt_congr fun x _ => by simp [idP, farF, hereF, wellF]
theorem id_here (R : List En) (Z : List Int) (z : Int) : cntZ (idP Z z true true) R = cntZ (hereF z) R := cnt_congr fun x _ => by simp [idP, hereF]
theorem id_len1 (R : List En) (Z : List Int) (z : Int) : ((idL R Z z true false).length : Int) = cntZ (bothF z Z) R := (idL_len _ _ _ _ _).trans (id_both _ _ _)
theorem id_len2 (R : List En) (Z : List Int) (z : Int) : ((idL R Z z false false).length : Int) = cntZ (farF z Z) R := (idL_len _ _ _ _ _).trans (id_far _ _ _)
theorem id_len3 (R : List En) (Z : List Int) (z : Int) : ((idL R Z z true true).length : Int) = cntZ (hereF z) R := (idL_len _ _ _ _ _).trans (id_here _ _ _)
/-- IDs, as a slice of so many. -/
theorem ids_n (v : Value) (R : List En) (u : Value) (Z : List Int) (z : Int) (h al : Bool) (w : World) (hv : EndsAt w v R) (hu : IntsAt w u Z) (hm : Z.length ≤ maxLen) (hn : (R.map En.i).Nodup) (hb : ∀ x ∈ R, x.i < 4611686018427387904) :
    Calls Try.prog 27 #[v, u, I z, .bool h, .bool al] w fun e w' => ∃ a cap, e = .returned (.slice a (idL R Z z h al).length cap) ∧ Bl w w' :=
  (ids_any v R u Z z h al w hv hu hm hn hb).mono fun e w' ⟨x, h1, h2, h3⟩ => by
    obtain ⟨a, cap, rfl⟩ := ints_slice (ints_own h2)
    exact ⟨a, cap, h1, h3⟩

set_option maxHeartbeats 4000000 in
theorem rhome_any (v : Value) (R : List En) (u : Value) (Z : List Int) (z : Int) (w : World) (hv : EndsAt w v R) (hu : IntsAt w u Z) (hm : Z.length ≤ maxLen) (hn : (R.map En.i).Nodup) (hb : ∀ x ∈ R, x.i < 4611686018427387904) :
    Calls Try.prog 13 #[v, u, I z] w fun e w' => e = .returned (I (homeF R Z z)) ∧ Bl w w' := by
  have hl : R.length ≤ 1000 := by obtain ⟨_, _, _, _, _, _, _, h⟩ := hv; exact h
  have I1 := Lib.hid (fun w' (hq : Bl w w') => ids_n v R u Z z true false w' (hv.bl hq) (Rd.below hu hq) hm hn hb)
  have I2 := Lib.hid (fun w' (hq : Bl w w') => ids_n v R u Z z false false w' (hv.bl hq) (Rd.below hu hq) hm hn hb)
  have I3 := Lib.hid (fun w' (hq : Bl w w') => ids_n v R u Z z true true w' (hv.bl hq) (Rd.below hu hq) hm hn hb)
  have e1 := id_len1 R Z z
  have e2 := id_len2 R Z z
  have e3 := id_len3 R Z z
  have hle := both_le R Z z
  have hb3 := (cnt_bd (hereF z) R).2
  rw [home_n]
  rw [← e1, ← e2, ← e3]
  rw [← e1, ← e3] at hle
  rw [← e3] at hb3
  obtain ⟨a, ha⟩ : ∃ z_, ((idL R Z z true false).length) = z_ := ⟨_, rfl⟩
  rw [ha] at I1 hle ⊢
  obtain ⟨b, hb'⟩ : ∃ z_, ((idL R Z z false false).length) = z_ := ⟨_, rfl⟩
  rw [hb'] at I2 ⊢
  obtain ⟨c, hc⟩ : ∃ z_, ((idL R Z z true true).length) = z_ := ⟨_, rfl⟩
  rw [hc] at I3 hle hb3 ⊢
  have hca : c ≤ 1000 := by omega
  have hac : a ≤ c := by omega
  clear hv hu hm hn hb e1 e2 e3 ha hb' hc hle hb3
  unfold homeN
  go_enter Try.func13, Try.ntmps13
  go_wp2_with fail
  with_reducible refine (I1.out _ (Bl.rfl' _)).mono ?_
  rintro e w1 ⟨xa, xc, rfl, hq1⟩
  replace hq1 := Lib.hid hq1
  go_wp2_with fail
  with_reducible refine (I2.out _ hq1.out).mono ?_
  rintro e w2 ⟨ya, yc, rfl, hq2⟩
  have hq3 := hq1.out.tr hq2
  clear hq2
  by_cases h1 : a = 0
  · subst h1
    replace hq3 := Lib.hid hq3
    go_wp2_with fail
    go_ret
    exact ⟨rfl, hq3.out⟩
  · by_cases h2 : b = 0
    · subst h2
      have f1 : ((a : Int) == 0) = false := beq_eq_false_iff_ne.2 (by omega)
      have f2 : ¬ (a : Int) = 0 := by omega
      replace hq3 := Lib.hid hq3
      go_wp2_with fail
      go_ret
      exact ⟨rfl, hq3.out⟩
    · have f1 : ((a : Int) == 0) = false := beq_eq_false_iff_ne.2 (by omega)
      have f2 : ((b : Int) == 0) = false := beq_eq_false_iff_ne.2 (by omega)
      have wa : IntKind.i64.wrap (100 * (a : Int)) = 100 * (a : Int) := by rw [IntKind.wrap_i64]; omega
      have td : (100 * (a : Int)).tdiv c = 100 * (a : Int) / c := Int.tdiv_eq_ediv_of_nonneg (by omega)
      have q0 : 0 ≤ 100 * (a : Int) / c := Int.ediv_nonneg (by omega) (by omega)
      have q1 : 100 * (a : Int) / c ≤ 100000 := Int.le_trans (Int.ediv_le_self _ (by omega)) (by omega)
      obtain ⟨X, hX⟩ : ∃ z_, (100 * (a : Int) / c) = z_ := ⟨_, rfl⟩
      rw [hX] at td q0 q1
      have wX : IntKind.i64.wrap X = X := by rw [IntKind.wrap_i64]; omega
      have c0 : ¬ c = 0 := by omega
      replace hq3 := Lib.hid hq3
      replace hX := Lib.hid hX
      go_wp2_with fail
      with_reducible refine (I3.out _ hq3.out).mono ?_
      rintro e w4 ⟨za, zc, rfl, hq4⟩
      have hq5 := hq3.out.tr hq4
      clear hq4
      replace hq5 := Lib.hid hq5
      go_wp2_with fail
      go_ret
      exact ⟨by rw [hX.out]; rfl, hq5.out⟩

theorem panic_parts (R : List En) (Z : List Int) : cntZ (wellF Z) R = ((idL R Z 0 true false).length : Int) + ((idL R Z 0 false false).length : Int) := by
  rw [id_len1, id_len2]; exact well_parts R Z 0
set_option maxHeartbeats 4000000 in
theorem rpanic_any (v : Value) (R : List En) (u : Value) (Z : List Int) (pc : Int) (w : World) (hv : EndsAt w v R) (hu : IntsAt w u Z) (hm : Z.length ≤ maxLen) (hn : (R.map En.i).Nodup) (hb : ∀ x ∈ R, x.i < 4611686018427387904) (p0 : 0 ≤ pc) (p1 : pc ≤ 1000) :
    Calls Try.prog 18 #[v, u, I pc] w fun e w' => e = .returned (.bool (panicF R Z pc)) ∧ Bl w w' := by
  have I1 := Lib.hid (fun w' (hq : Bl w w') => ids_n v R u Z 0 true false w' (hv.bl hq) (Rd.below hu hq) hm hn hb)
  have I2 := Lib.hid (fun w' (hq : Bl w w') => ids_n v R u Z 0 false false w' (hv.bl hq) (Rd.below hu hq) hm hn hb)
  have hpp := panic_parts R Z
  have hbd := (cnt_bd (wellF Z) R).2
  unfold panicF
  rw [hpp]
  rw [hpp] at hbd
  obtain ⟨ea, eg, eo, ec, rfl, -, -, hl⟩ := id hv
  obtain ⟨a, ha⟩ : ∃ z_, ((idL R Z 0 true false).length) = z_ := ⟨_, rfl⟩
  rw [ha] at I1 hbd ⊢
  obtain ⟨b, hb'⟩ : ∃ z_, ((idL R Z 0 false false).length) = z_ := ⟨_, rfl⟩
  rw [hb'] at I2 hbd ⊢
  obtain ⟨N, hN⟩ : ∃ z_, (R.length) = z_ := ⟨_, rfl⟩
  rw [hN] at I1 I2 hbd hl ⊢
  have w1 : IntKind.i64.wrap ((a : Int) + b) = (a : Int) + b := by rw [IntKind.wrap_i64]; omega
  have w2 : IntKind.i64.wrap (100 * ((a : Int) + b)) = 100 * ((a : Int) + b) := by rw [IntKind.wrap_i64]; omega
  have m1 : pc * N ≤ 1000 * 1000 := Int.mul_le_mul p1 (by omega) (by omega) (by omega)
  have m0 : 0 ≤ pc * N := Int.mul_nonneg p0 (by omega)
  have w3 : IntKind.i64.wrap (pc * N) = pc * N := by rw [IntKind.wrap_i64]; omega
  obtain ⟨B, hB⟩ : ∃ z_, (decide (100 * ((a : Int) + b) < pc * N)) = z_ := ⟨_, rfl⟩
  rw [hB]
  clear hv hu hm hn hb hpp ha hb' hN hbd hl m0 m1
  go_enter Try.func18, Try.ntmps18
  go_wp2_with fail
  with_reducible refine (I1.out _ (Bl.rfl' _)).mono ?_
  rintro e w1 ⟨xa, xc, rfl, hq1⟩
  replace hq1 := Lib.hid hq1
  go_wp2_with fail
  with_reducible refine (I2.out _ hq1.out).mono ?_
  rintro e w2 ⟨ya, yc, rfl, hq2⟩
  have hq3 := hq1.out.tr hq2
  clear hq2
  replace hq3 := Lib.hid hq3
  go_wp2_with fail
  go_ret
  exact ⟨rfl, hq3.out⟩

def bareL (R : List En) : List En := R.map fun x => ⟨x.i, 0, 0⟩
theorem bare_ids (R : List En) : (bareL R).map En.i = R.map En.i := by unfold bareL; rw [List.map_map]; rfl
theorem bare_take (R : List En) (k : Nat) (h : k < R.length) : (bareL R).take (k + 1) = (bareL R).take k ++ [⟨(R.getD k e0).i, 0, 0⟩] := by
  rw [List.take_succ_eq_append_getElem (by simpa [bareL] using h), List.getD_eq_getElem?_getD, List.getElem?_eq_getElem h]
  simp [bareL]
theorem bare_len (R : List En) : (bareL R).length = R.length := by simp [bareL]
theorem among_bare {R : List En} {Z : List Int} {z pc d : Int} (h : panicF R Z pc = true) : idL (bareL R) [] 0 true true = amongL R Z z pc d := by
  unfold idL amongL
  rw [show amongP R Z z pc d = alwaysF by unfold amongP; rw [h]; rfl, evZ_all, evZ_all]
  rw [show (bareL R).filter (idP [] 0 true true) = bareL R from List.filter_eq_self.2 (fun x hx => by
    unfold bareL at hx
    obtain ⟨y, -, rfl⟩ := List.mem_map.1 hx
    rfl), show R.filter alwaysF = R from List.filter_eq_self.2 (fun _ _ => rfl), bare_ids]
theorem among_ids {R : List En} {Z : List Int} {z pc d : Int} (h : panicF R Z pc = false) : idL R Z z (decide (d < homeF R Z z)) false = amongL R Z z pc d := by
  unfold idL amongL
  rw [panicF_no h, show idP Z z (decide (d < homeF R Z z)) false = amongF Z z (decide (d < homeF R Z z)) from funext fun x => by
    unfold idP amongF wellF
    rw [Bool.false_or, Bool.and_comm]]

set_option maxRecDepth 20000 in
set_option maxHeartbeats 4000000 in
theorem ramong_any (v : Value) (R : List En) (u : Value) (Z : List Int) (z pc d : Int) (w : World) (hv : EndsAt w v R) (hu : IntsAt w u Z) (hm : Z.length ≤ maxLen) (hn : (R.map En.i).Nodup) (hb : ∀ x ∈ R, x.i < 4611686018427387904) (p0 : 0 ≤ pc) (p1 : pc ≤ 1000) :
    Calls Try.prog 16 #[v, u, I z, I pc, I d] w fun e w' => ∃ x, e = .returned x ∧ IntsAt w' x (amongL R Z z pc d) ∧ Bl w w' := by
  obtain ⟨iu, hiu, zu0, zu1, zu2⟩ := info_parts infoE
  have PA := Lib.hid (rpanic_any v R u Z pc w hv hu hm hn hb p0 p1)
  have HA := Lib.hid (fun w' (hq : Bl w w') => rhome_any v R u Z z w' (hv.bl hq) (Rd.below hu hq) hm hn hb)
  have ID := Lib.hid (fun h w' (hq : Bl w w') => ids_any v R u Z z h false w' (hv.bl hq) (Rd.below hu hq) hm hn hb)
  have hA1 := fun h => among_bare (R := R) (Z := Z) (z := z) (pc := pc) (d := d) h
  have hA0 := fun h => among_ids (R := R) (Z := Z) (z := z) (pc := pc) (d := d) h
  obtain ⟨ea, eg, eo, ec, rfl, hr, hg, hl⟩ := id hv
  have RC := Lib.hid (fun w' (hb : Bl w w') i hi => (hr.bl hb).c i hi)
  have hbt := bare_take R
  have hbl := bare_len R
  have hbn : ((bareL R).map En.i).Nodup := by rw [bare_ids]; exact hn
  have hbb : ∀ x ∈ bareL R, x.i < 4611686018427387904 := fun x hx => by
    unfold bareL at hx
    obtain ⟨y, hy, rfl⟩ := List.mem_map.1 hx
    exact hb y hy
  obtain ⟨pn, hpn⟩ : ∃ z_, (panicF R Z pc) = z_ := ⟨_, rfl⟩
  rw [hpn] at PA hA1 hA0
  obtain ⟨H, hH⟩ : ∃ z_, (homeF R Z z) = z_ := ⟨_, rfl⟩
  rw [hH] at hA0
  simp only [hH] at HA
  obtain ⟨A, hA⟩ : ∃ z_, (amongL R Z z pc d) = z_ := ⟨_, rfl⟩
  rw [hA] at hA1 hA0 ⊢
  clear hpn hH hA hr hg hu hm hn hb hv
  replace hA1 := Lib.hid hA1
  replace hA0 := Lib.hid hA0
  replace hbt := Lib.hid hbt
  replace hbl := Lib.hid hbl
  replace hbn := Lib.hid hbn
  replace hbb := Lib.hid hbb
  go_enter Try.func16, Try.ntmps16
  go_wp2_with fail
  with_reducible refine (PA.out).mono ?_
  rintro e w1 ⟨rfl, hq1⟩
  cases pn with
  | true =>
    replace hq1 := Lib.hid hq1
    go_wp2_with fail
    go_loopw [12, 13] (fun o i wr => ∃ k : Nat, k ≤ R.length ∧ i = I k ∧ OwnB eB 3 35 wr w.heap.size o ((bareL R).take k) ∧ Bl w wr) (fun _ i _ => R.length - (intOf i).toNat)
    case atStart => exact ⟨0, by omega, rfl, OwnB.nil _ _ _, hq1.out⟩
    case round =>
      obtain ⟨k, hk, rfl, hown, hbr⟩ := hrel
      by_cases hlt : k < R.length
      · have hbs := hbr.size
        obtain ⟨ha, hcc⟩ := RC.out _ hbr k hlt
        subst ha
        have c0 := hcc 0 (by decide)
        simp only [List.getElem?_cons_zero, Nat.add_zero] at c0
        have hst := hbt.out k hlt
        obtain ⟨y, hy⟩ : ∃ z_, ((R.getD k e0).i) = z_ := ⟨_, rfl⟩
        change _ = some (I (R.getD k e0).i) at c0
        rw [hy] at c0 hst
        obtain ⟨ra, rg, rcap, rfl, hrg, hrc, hrc2, hRR⟩ := OwnB.row hown (by decide)
        have hlk : ((bareL R).take k).length = k := by rw [List.length_take, hbl.out]; omega
        replace hown : wr.ownsRow w.heap.size 35 3 (.slice ra ((bareL R).take k).length rcap) ((bareL R).take k).length (flatB eB ((bareL R).take k)) := hown
        rw [hlk] at hown ⊢
        clear hcc hy hRR hrg hlk
        replace hst := Lib.hid hst
        replace hown := Lib.hid hown
        replace hbr := Lib.hid hbr
        go_wp2_with (at_builtin; refine wpList_append_row rfl _ _ 23 rfl w.heap.size 35 iu (.agg #[I 0, I 0, I 0]) 3 24 Try.underlying23 hiu zu0 zu1 zu2 rfl (by decide) _ k (flatB eB ((bareL R).take k)) rfl hown.out #[I y, I 0, I 0] _ rfl (by intro u hu; simp at hu; rcases hu with rfl | rfl <;> rfl) 1 (by first | rfl | simp [Act.eval, Act.put]) (by omega) (by omega) (by omega) ?_)
        intro b' cap' w7 hown7 hgrow7
        have hb7 := hbr.out.grown hgrow7 (fun k hk => (hown.out.lt k hk).1)
        clear hgrow7
        replace hown7 := Lib.hid hown7
        replace hb7 := Lib.hid hb7
        go_wp2_with fail
        go_roundw
        case rel => exact ⟨k + 1, by omega, by first | rfl | go_num, by unfold OwnB; rw [hst.out, flatB_snoc, List.length_append, List.length_take, hbl.out, Nat.min_eq_left (by omega)]; exact hown7.out, hb7.out⟩
        case measure => simp [intOf] <;> omega
      · obtain rfl : k = R.length := by omega
        rw [show (bareL R).take R.length = bareL R by rw [← hbl.out]; exact List.take_length] at hown
        have hEB := ends_own hown (by rw [hbl.out]; exact hl)
        have IB := Lib.hid (ids_any _ (bareL R) (.slice none 0 0) [] 0 true true wr hEB (ints_nil wr) (by decide) hbn.out hbb.out)
        rw [hA1.out (by first | rfl | trivial)] at IB
        clear hown hEB
        replace hbr := Lib.hid hbr
        go_wp2_with fail
        with_reducible refine (IB.out).mono ?_
        rintro e w8 ⟨x, rfl, hx, hq8⟩
        have hx2 := ints_own hx
        replace hx2 := Lib.hid hx2
        clear hx
        have hq9 := hbr.out.tr hq8
        clear hq8
        replace hq9 := Lib.hid hq9
        go_wp2_with fail
        go_ret
        exact ⟨_, rfl, hx2.out, hq9.out⟩
  | false =>
    have hx0 := hA0.out (by first | rfl | trivial)
    obtain ⟨D, hD⟩ : ∃ z_, (decide (d < H)) = z_ := ⟨_, rfl⟩
    rw [hD] at hx0
    have IDD := ID.out D
    rw [hx0] at IDD
    have hD2 : decide (H > d) = D := hD
    clear hx0
    replace hq1 := Lib.hid hq1
    replace IDD := Lib.hid IDD
    go_wp2_with fail
    with_reducible refine (HA.out _ hq1.out).mono ?_
    rintro e w2 ⟨rfl, hq2⟩
    have hq3 := hq1.out.tr hq2
    clear hq2
    replace hq3 := Lib.hid hq3
    go_wp2_with fail
    with_reducible refine (IDD.out _ hq3.out).mono ?_
    rintro e w4 ⟨x, rfl, hx, hq4⟩
    have hx2 := ints_own hx
    have hq5 := hq3.out.tr hq4
    clear hx hq4
    replace hx2 := Lib.hid hx2
    replace hq5 := Lib.hid hq5
    go_wp2_with fail
    go_ret
    exact ⟨_, rfl, hx2.out, hq5.out⟩
end Go.Proofs.Ytjajhebnafaflaa.zones
