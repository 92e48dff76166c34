/-
  ZonesSpill is true for every input: with all here well all stay; with none here well, but some elsewhere, none does; and in a panic all are told. No condition.
-/
import Derived.Test.YtjajhebnafaflaaZnJ
import Derived.Test.YtjajhebnafaflaaFeed
namespace Go.Proofs.Ytjajhebnafaflaa.zonesSpill
open Go.ChangeShapes Go.WideShapes Go.ChangeAt Go.RowKit
open Go.Proofs.Ytjajhebnafaflaa.zones
set_option linter.unusedVariables false
set_option linter.unusedSimpArgs false

def heR (a : Nat) : List En := (List.range a).map fun i : Nat => ⟨1 + (i : Int), 0, 1⟩
def thR (b : Nat) : List En := (List.range b).map fun i : Nat => ⟨11 + (i : Int), 0, 2 + (i : Int) % 2⟩
def ownI (a : Nat) : List Int := (List.range a).map fun i : Nat => 1 + (i : Int)
def othI (b : Nat) : List Int := (List.range b).map fun i : Nat => 11 + (i : Int)
theorem heR_succ (k : Nat) : heR (k + 1) = heR k ++ [⟨1 + (k : Int), 0, 1⟩] := by simp [heR, List.range_succ]
theorem thR_succ (k : Nat) : thR (k + 1) = thR k ++ [⟨11 + (k : Int), 0, 2 + (k : Int) % 2⟩] := by simp [thR, List.range_succ]
theorem ownI_succ (k : Nat) : ownI (k + 1) = ownI k ++ [1 + (k : Int)] := by simp [ownI, List.range_succ]
theorem othI_succ (k : Nat) : othI (k + 1) = othI k ++ [11 + (k : Int)] := by simp [othI, List.range_succ]
theorem heR_len (k : Nat) : (heR k).length = k := by simp [heR]
theorem thR_len (k : Nat) : (thR k).length = k := by simp [thR]
theorem ownI_len (k : Nat) : (ownI k).length = k := by simp [ownI]
theorem othI_len (k : Nat) : (othI k).length = k := by simp [othI]
theorem all_is : ∀ a ∈ List.range 9, ∀ b ∈ List.range 9, 1 ≤ a → 1 ≤ b →
    homeF (heR a ++ thR b) (ownI a ++ othI b) 1 = 100 ∧ homeF (heR a ++ thR b) (othI b) 1 = 0 ∧ homeF (heR a ++ thR b) (ownI a) 1 = 100 ∧
    homeF (heR a ++ thR b) ((ownI a ++ othI b).drop 1) 1 = 100 * ((a : Int) - 1) / a ∧
    panicF (heR a ++ thR b) (ownI a ++ othI b) 100 = false ∧ panicF (heR a ++ thR b) (othI b) 0 = false ∧ panicF (heR a ++ thR b) [] 1 = true ∧
    evZ (amongF (ownI a ++ othI b) 1 true) (heR a ++ thR b) (heR a ++ thR b).length = ownI a ∧
    evZ (amongF (othI b) 1 false) (heR a ++ thR b) (heR a ++ thR b).length = othI b ∧
    evZ alwaysF (heR a ++ thR b) (heR a ++ thR b).length = ownI a ++ othI b ∧
    (ownI a ++ othI b).Pairwise (fun x y => decide (x ≤ y) = true) := by decide +kernel
theorem srt_id {z : List Int} (h : z.Pairwise (fun x y => decide (x ≤ y) = true)) : srt z = z := List.mergeSort_of_pairwise h
structure Facts (a b : Nat) (d : Int) : Prop where
  h1 : homeF (heR a ++ thR b) (ownI a ++ othI b) 1 = 100
  h2 : homeF (heR a ++ thR b) (othI b) 1 = 0
  h3 : homeF (heR a ++ thR b) (ownI a) 1 = 100
  h4 : homeF (heR a ++ thR b) ((ownI a ++ othI b).drop 1) 1 = 100 * ((a : Int) - 1) / a
  a1 : amongL (heR a ++ thR b) (ownI a ++ othI b) 1 100 d = ownI a
  a2 : amongL (heR a ++ thR b) (othI b) 1 0 d = othI b
  a3 : amongL (heR a ++ thR b) [] 1 1 d = ownI a ++ othI b
theorem facts {a b : Nat} {d : Int} (a1 : 1 ≤ a) (a8 : a ≤ 8) (b1 : 1 ≤ b) (b8 : b ≤ 8) (d0 : 0 ≤ d) (d1 : d < 100) : Facts a b d := by
  obtain ⟨h1, h2, h3, h4, p1, p2, p3, e1, e2, e3, hs⟩ := all_is a (by simp; omega) b (by simp; omega) a1 b1
  refine ⟨h1, h2, h3, h4, ?_, ?_, ?_⟩
  · unfold amongL
    rw [panicF_no p1, h1, decide_eq_true d1, e1]
    exact srt_id (List.pairwise_append.1 hs).1
  · unfold amongL
    rw [panicF_no p2, h2, decide_eq_false (show ¬ d < 0 by omega), e2]
    exact srt_id (List.pairwise_append.1 hs).2.1
  · unfold amongL
    rw [show amongP (heR a ++ thR b) [] 1 1 d = alwaysF by unfold amongP; rw [p3]; rfl, e3]
    exact srt_id hs
theorem two_three (k : Nat) : (k : Int).tmod 2 = (k : Int) % 2 := Int.tmod_eq_emod_of_nonneg (by omega)

set_option maxRecDepth 20000 in
set_option maxHeartbeats 16000000 in
theorem walk {w : World} (a0 : Int) (l0 : -9223372036854775808 ≤ a0) (u0 : a0 ≤ 9223372036854775807) (a1 : Int) (l1 : -9223372036854775808 ≤ a1) (u1 : a1 ≤ 9223372036854775807) (a2 : Int) (l2 : -9223372036854775808 ≤ a2) (u2 : a2 ≤ 9223372036854775807) :
    Calls Try.prog 8 #[I a0, I a1, I a2] w fun e w' => e = .returned (.bool true) ∧ Bl w w' := by
  obtain ⟨ie, hie, ze0, ze1, ze2⟩ := info_parts infoE
  obtain ⟨iu, hiu, zu0, zu1, zu2⟩ := info_parts infoI
  have LV := Lib.hid lives_any
  have A0 := Lib.hid (fun w => around_any a0 8 w l0 u0 (by omega) (by omega))
  have A1 := Lib.hid (fun w => around_any a1 8 w l1 u1 (by omega) (by omega))
  have A2 := Lib.hid (fun w => around_any a2 100 w l2 u2 (by omega) (by omega))
  have p0 := around_lo a0 8 (by omega); have p1 := around_hi a0 8 (by omega)
  have q0 := around_lo a1 8 (by omega); have q1 := around_hi a1 8 (by omega)
  have d0 := around_lo a2 100 (by omega); have d1 := around_hi a2 100 (by omega)
  obtain ⟨x, hx⟩ : ∃ z_, (around a0 8) = z_ := ⟨_, rfl⟩
  rw [hx] at A0 p0 p1
  obtain ⟨y, hy⟩ : ∃ z_, (around a1 8) = z_ := ⟨_, rfl⟩
  rw [hy] at A1 q0 q1
  obtain ⟨d, hd⟩ : ∃ z_, (around a2 100) = z_ := ⟨_, rfl⟩
  rw [hd] at A2 d0 d1
  obtain ⟨a, ha⟩ : ∃ a : Nat, 1 + x = a := ⟨(1 + x).toNat, by omega⟩
  obtain ⟨b, hb⟩ : ∃ b : Nat, 1 + y = b := ⟨(1 + y).toNat, by omega⟩
  have wa : IntKind.i64.wrap (1 + x) = (a : Int) := by rw [IntKind.wrap_i64]; omega
  have wb : IntKind.i64.wrap (1 + y) = (b : Int) := by rw [IntKind.wrap_i64]; omega
  have a1' : 1 ≤ a := by omega
  have a8 : a ≤ 8 := by omega
  have b1' : 1 ≤ b := by omega
  have b8 : b ≤ 8 := by omega
  have FF := facts a1' a8 b1' b8 d0 d1
  clear hx hy hd ha hb l0 u0 l1 u1 l2 u2
  replace FF := Lib.hid FF
  go_enter Try.func8, Try.ntmps8
  go_wp2_with fail
  with_reducible refine (A0.out _).mono ?_
  rintro e w' ⟨rfl, rfl⟩
  go_wp2_with fail
  with_reducible refine (A1.out _).mono ?_
  rintro e w' ⟨rfl, rfl⟩
  clear A0 A1
  go_wp2_with fail
  clear wa wb
  go_loopw [9, 10, 12] (fun o l i wr => ∃ k : Nat, k ≤ a ∧ i = I k ∧ OwnB eB 3 35 wr w.heap.size o (heR k) ∧ wr.ownsRow w.heap.size 3 1 l (ownI k).length ((ownI k).map I) ∧ Bl w wr) (fun _ _ i _ => a - (intOf i).toNat)
  case atStart => exact ⟨0, by omega, rfl, OwnB.nil _ _ _, World.ownsRow_nil _ _ _ _, Bl.rfl' _⟩
  case round =>
    obtain ⟨k, hk, rfl, hown, hol, hbr⟩ := hrel
    by_cases hlt : k < a
    · have hbs := hbr.size
      obtain ⟨ra, rg, rcap, rfl, hrg, hrc, hrc2, hRR⟩ := OwnB.row hown (by decide)
      replace hown : wr.ownsRow w.heap.size 35 3 (.slice ra (heR k).length rcap) (heR k).length (flatB eB (heR k)) := hown
      obtain ⟨oa, oc, rfl⟩ := ints_slice (ints_own hol)
      rw [heR_len] at hown ⊢
      rw [ownI_len] at hol ⊢
      have w1k : IntKind.i64.wrap (1 + (k : Int)) = 1 + (k : Int) := by rw [IntKind.wrap_i64]; omega
      have wk1 : IntKind.i64.wrap ((k : Int) + 1) = ((k + 1 : Nat) : Int) := by rw [IntKind.wrap_i64]; omega
      have hap := own_apart2 hol hown (by decide)
      have hk8 : k ≤ 8 := by omega
      clear hRR hrg
      replace hown := Lib.hid hown
      replace hol := Lib.hid hol
      replace hbr := Lib.hid hbr
      replace hap := Lib.hid hap
      go_wp2_with (at_builtin; refine wpList_append_row rfl _ _ 23 rfl w.heap.size 35 ie (.agg #[I 0, I 0, I 0]) 3 24 Try.underlying23 hie ze0 ze1 ze2 rfl (by decide) _ k (flatB eB (heR k)) rfl hown.out #[I (1 + k), I 0, I 1] _ rfl (by intro u hu; simp at hu; rcases hu with rfl | rfl | rfl <;> rfl) 1 (by first | rfl | simp [Act.eval, Act.put]) (by omega) (by omega) (by omega) ?_)
      intro b' cap' w7 hown7 hgrow7
      have hb7 := hbr.out.grown hgrow7 (fun k hk => (hown.out.lt k hk).1)
      have hol7 := World.ownsRow.kept hol.out hgrow7 (by simpa using hap.out)
      have hbs7 := hb7.size
      have hap7 := own_apart2 hown7 hol7 (by decide)
      clear hgrow7
      replace hown7 := Lib.hid hown7
      replace hb7 := Lib.hid hb7
      replace hol7 := Lib.hid hol7
      replace hap7 := Lib.hid hap7
      go_wp2_with (at_builtin; refine wpList_append_one rfl _ _ 22 rfl w.heap.size 3 iu (I 0) 8 Try.underlying22 hiu zu0 zu1 zu2 rfl _ k ((ownI k).map I) rfl hol7.out (I (1 + k)) _ rfl 1 (by first | rfl | simp [Act.eval, Act.put]) (by omega) (by omega) (by omega) ?_)
      intro b2 cap2 w8 hol8 hgrow8
      have hb8 := hb7.out.grown hgrow8 (fun k hk => (hol7.out.lt k hk).1)
      have hown8 := World.ownsRow.kept hown7.out hgrow8 (by simpa using hap7.out)
      clear hgrow8 hown7 hol7 hap7 hb7 hown hol hap
      replace hown8 := Lib.hid hown8
      replace hb8 := Lib.hid hb8
      replace hol8 := Lib.hid hol8
      go_wp2_with fail
      go_roundw
      case rel => exact ⟨k + 1, by omega, by first | rfl | go_num, by unfold OwnB; rw [heR_succ, flatB_snoc, List.length_append, heR_len]; exact hown8.out, by rw [ownI_succ, List.length_append, ownI_len, List.map_append]; exact hol8.out, hb8.out⟩
      case measure => simp [intOf] <;> omega
    · obtain rfl : k = a := by omega
      obtain ⟨wB, hwB⟩ : ∃ x, x = wr := ⟨_, rfl⟩
      subst hwB
      have hlB := fun q hq => (hol.lt q hq).2
      have hba := hbr.size
      obtain ⟨oa, oc, rfl⟩ := ints_slice (ints_own hol)
      replace hown := Lib.hid hown
      replace hol := Lib.hid hol
      replace hbr := Lib.hid hbr
      replace hlB := Lib.hid hlB
      go_wp2_with fail
      go_loopw [9, 11, 13] (fun o l i wr => ∃ j : Nat, j ≤ b ∧ i = I j ∧ OwnB eB 3 35 wr w.heap.size o (heR k ++ thR j) ∧ wr.ownsRow w.heap.size 3 1 (.slice oa (ownI k).length oc) (ownI k).length ((ownI k).map I) ∧ wr.ownsRow wB.heap.size 3 1 l (othI j).length ((othI j).map I) ∧ Bl w wr ∧ wB.heap.size ≤ wr.heap.size) (fun _ _ i _ => b - (intOf i).toNat)
      case atStart => exact ⟨0, by omega, rfl, by simpa [thR] using hown.out, hol.out, World.ownsRow_nil _ _ _ _, hbr.out, Nat.le_refl _⟩
      case round =>
        obtain ⟨j, hj, rfl, hown, hol, hot, hbr, hbB⟩ := hrel
        by_cases hlt : j < b
        · have hbs := hbr.size
          obtain ⟨ra, rg, rcap, rfl, hrg, hrc, hrc2, hRR⟩ := OwnB.row hown (by decide)
          replace hown : wr.ownsRow w.heap.size 35 3 (.slice ra (heR k ++ thR j).length rcap) (heR k ++ thR j).length (flatB eB (heR k ++ thR j)) := hown
          obtain ⟨ta, tc, rfl⟩ := ints_slice (ints_own hot)
          rw [show (heR k ++ thR j).length = k + j by rw [List.length_append, heR_len, thR_len]] at hown ⊢
          rw [othI_len] at hot ⊢
          have w1k : IntKind.i64.wrap (11 + (j : Int)) = 11 + (j : Int) := by rw [IntKind.wrap_i64]; omega
          have wk1 : IntKind.i64.wrap ((j : Int) + 1) = ((j + 1 : Nat) : Int) := by rw [IntKind.wrap_i64]; omega
          have t2 := two_three j
          have m0 : 0 ≤ (j : Int) % 2 := by omega
          have m1 : (j : Int) % 2 < 2 := by omega
          obtain ⟨m, hm⟩ : ∃ z_, ((j : Int) % 2) = z_ := ⟨_, rfl⟩
          rw [hm] at t2 m0 m1
          have wt2 : IntKind.i64.wrap ((j : Int).tmod 2) = m := by rw [t2, IntKind.wrap_i64]; omega
          have wm2 : IntKind.i64.wrap (2 + m) = 2 + m := by rw [IntKind.wrap_i64]; omega
          have hap := own_apart2 hol hown (by decide)
          have hat := own_apart2 hot hown (by decide)
          have hj8 : j ≤ 8 := by omega
          clear hRR hrg
          replace hown := Lib.hid hown
          replace hol := Lib.hid hol
          replace hbr := Lib.hid hbr
          replace hap := Lib.hid hap
          replace hat := Lib.hid hat
          replace hot := Lib.hid hot
          replace hm := Lib.hid hm
          go_wp2_with (at_builtin; refine wpList_append_row rfl _ _ 23 rfl w.heap.size 35 ie (.agg #[I 0, I 0, I 0]) 3 24 Try.underlying23 hie ze0 ze1 ze2 rfl (by decide) _ (k + j) (flatB eB (heR k ++ thR j)) rfl hown.out #[I (11 + j), I 0, I (2 + m)] _ rfl (by intro u hu; simp at hu; rcases hu with rfl | rfl | rfl <;> rfl) 1 (by first | rfl | simp [Act.eval, Act.put]) (by omega) (by omega) (by omega) ?_)
          intro b' cap' w7 hown7 hgrow7
          have hb7 := hbr.out.grown hgrow7 (fun k hk => (hown.out.lt k hk).1)
          have hol7 := World.ownsRow.kept hol.out hgrow7 (by simpa using hap.out)
          have hot7 := World.ownsRow.kept hot.out hgrow7 (by simpa using hat.out)
          have hbs7 := hb7.size
          have hbB7 : wB.heap.size ≤ w7.heap.size := Nat.le_trans hbB hgrow7.size
          have hap7 := own_apart2 hown7 hot7 (by decide)
          clear hgrow7 hap hat
          replace hown7 := Lib.hid hown7
          replace hb7 := Lib.hid hb7
          replace hol7 := Lib.hid hol7
          replace hot7 := Lib.hid hot7
          replace hap7 := Lib.hid hap7
          go_wp2_with (at_builtin; refine wpList_append_one rfl _ _ 22 rfl wB.heap.size 3 iu (I 0) 8 Try.underlying22 hiu zu0 zu1 zu2 rfl _ j ((othI j).map I) rfl hot7.out (I (11 + j)) _ rfl 1 (by first | rfl | simp [Act.eval, Act.put]) (by omega) (by omega) (by omega) ?_)
          intro b2 cap2 w8 hot8 hgrow8
          have hb8 := hb7.out.grown hgrow8 (fun k hk => by have := (hot7.out.lt k hk).1; omega)
          have hown8 := World.ownsRow.kept hown7.out hgrow8 (by simpa using hap7.out)
          have hol8 := World.ownsRow.kept hol7.out hgrow8 (by
            cases hq : (Value.slice oa (ownI k).length oc).ownBlock with
            | none => exact Or.inl rfl
            | some q =>
              refine Or.inr (fun e => ?_)
              have h1 := hlB.out q hq
              have h2 := (hot7.out.lt q e.symm).1
              omega)
          have hbB8 : wB.heap.size ≤ w8.heap.size := Nat.le_trans hbB7 hgrow8.size
          clear hgrow8 hown7 hol7 hap7 hb7 hown hol hot hot7
          replace hown8 := Lib.hid hown8
          replace hb8 := Lib.hid hb8
          replace hol8 := Lib.hid hol8
          replace hot8 := Lib.hid hot8
          go_wp2_with fail
          go_roundw
          case rel => exact ⟨j + 1, by omega, by first | rfl | go_num, by unfold OwnB; rw [thR_succ, ← List.append_assoc, flatB_snoc, List.length_append, List.length_append, heR_len, thR_len, hm.out]; exact hown8.out, hol8.out, by rw [othI_succ, List.length_append, othI_len, List.map_append]; exact hot8.out, hb8.out, hbB8⟩
          case measure => simp [intOf] <;> omega
        · obtain rfl : j = b := by omega
          obtain ⟨wC, hwC⟩ : ∃ x, x = wr := ⟨_, rfl⟩
          subst hwC
          have hER := ends_own hown (by rw [List.length_append, heR_len, thR_len]; omega)
          have hRl : (heR k ++ thR j).length = k + j := by rw [List.length_append, heR_len, thR_len]
          have hl1 : (ownI k).length = k := ownI_len k
          have hl2 : (othI j).length = j := othI_len j
          have hI1 := ints_own hol
          have hI2 := ints_own hot
          have FA := FF.out
          obtain ⟨ta, tc, rfl⟩ := ints_slice hI2
          obtain ⟨ea, eg, eo, ec, rfl, -, -, -⟩ := id hER
          rw [hl1] at hol hI1 ⊢
          rw [hl2] at hot hI2 ⊢
          rw [hRl] at hER ⊢
          have hal := (Bl.rfl' wC).al (.cells #[] 3)
          have F1 := own_feed (own_below hol hal)
          have hown0 := World.ownsRow_lit (base := wC.heap.size) (e := 3) (size := 1) wC #[] 0 (Nat.le_refl _) (by decide) (by simp)
          have hals := hal.size
          have F2 := fun w' (hb : Bl wC w') => own_feed (own_below hot hb)
          have m1 : (ownI k).length ≤ maxLen := by rw [hl1]; unfold maxLen; omega
          have m2 : (othI j).length ≤ maxLen := by rw [hl2]; unfold maxLen; omega
          have la : (ownI k ++ othI j).length = k + j := by rw [List.length_append, hl1, hl2]
          have m3 : (ownI k ++ othI j).length ≤ maxLen := by rw [la]; unfold maxLen; omega
          clear hown hol hot hlB
          replace F1 := Lib.hid F1
          replace F2 := Lib.hid F2
          replace hown0 := Lib.hid hown0
          replace hal := Lib.hid hal
          replace hER := Lib.hid hER
          replace hI1 := Lib.hid hI1
          replace hI2 := Lib.hid hI2
          replace hbr := Lib.hid hbr
          replace hl1 := Lib.hid hl1
          replace hl2 := Lib.hid hl2
          replace hRl := Lib.hid hRl
          replace m1 := Lib.hid m1
          replace m2 := Lib.hid m2
          replace m3 := Lib.hid m3
          replace la := Lib.hid la
          replace FA := Lib.hid FA
          go_wp2_with fail
          with_reducible refine (A2.out _).mono ?_
          rintro e w' ⟨rfl, rfl⟩
          clear A2
          go_wp2_with (at_builtin; refine wpList_append_feed rfl (.tmp 59) (.tmp 60) 22 rfl wC.heap.size 3 iu (I 0) 1 8 Try.underlying22 hiu zu0 zu1 zu2 rfl (by decide) _ 0 [] rfl hown0.out _ k ((ownI k).map I) F1.out (by intro u hu; obtain ⟨x, -, rfl⟩ := List.mem_map.1 hu; rfl) (by first | rfl | simp [Act.eval, Act.put]) (by omega) (by omega) (by omega) ?_)
          intro v5 w5 hown5 hgrow5
          have hb5 := hal.out.grown hgrow5 (fun k hk => (hown0.out.lt k hk).1)
          replace hown5 : w5.ownsRow wC.heap.size 3 1 v5 k ((ownI k).map I) := by first | exact hown5 | (rw [Nat.zero_add, List.nil_append] at hown5; exact hown5)
          have F3 := F2.out _ hb5
          have hbs5 := hb5.size
          obtain ⟨g5, c5, rfl⟩ : ∃ a c, v5 = .slice a k c := by
            have h := ints_own (L := ownI k) (by rw [hl1.out]; exact hown5)
            obtain ⟨a, c, h⟩ := ints_slice h
            rw [hl1.out] at h
            exact ⟨a, c, h⟩
          clear hgrow5 hown0 F1 F2 hal
          replace hown5 := Lib.hid hown5
          replace hb5 := Lib.hid hb5
          replace F3 := Lib.hid F3
          go_wp2_with (at_builtin; refine wpList_append_feed rfl (.tmp 61) (.tmp 62) 22 rfl wC.heap.size 3 iu (I 0) 1 8 Try.underlying22 hiu zu0 zu1 zu2 rfl (by decide) _ k ((ownI k).map I) (by first | rfl | simp [Act.eval, Act.put]) hown5.out _ j ((othI j).map I) F3.out (by intro u hu; obtain ⟨x, -, rfl⟩ := List.mem_map.1 hu; rfl) (by first | rfl | simp [Act.eval, Act.put]) (by omega) (by omega) (by omega) ?_)
          intro v7 w7 hown7 hgrow7
          have hb7 := hb5.out.grown hgrow7 (fun k hk => (hown5.out.lt k hk).1)
          have hI7 : IntsAt w7 v7 (ownI k ++ othI j) := ints_own (base := wC.heap.size) (by rw [la.out, List.map_append]; exact hown7)
          obtain ⟨g7, c7, rfl, hg7, hc7, hc7m⟩ : ∃ g c, v7 = .slice (some ⟨g, 0, none⟩) (k + j) c ∧ IntsAt w7 (.slice (some ⟨g, 1, none⟩) (k + j - 1) (c - 1)) ((ownI k ++ othI j).drop 1) ∧ k + j ≤ c ∧ c ≤ 9223372036854775807 := by
            rcases hown7.2 with ⟨-, hn⟩ | ⟨g, cap, cur, rfl, h4, h5, h6, h7, h8, h9⟩
            · omega
            · refine ⟨g, cap, rfl, Or.inr ⟨g, 1, cap - 1, ?_, ?_, ?_, ?_, ?_⟩, h6, by simpa [maxLen] using h7⟩
              · rw [List.length_drop, la.out]
              · rw [List.length_drop, la.out]; omega
              · unfold maxLen at *; omega
              · exact lt_of_block h5
              · intro i hi
                rw [List.length_drop] at hi
                have h := ints_cell hI7 (i + 1) (by omega)
                rw [Nat.zero_add, Nat.add_comm i 1] at h
                rw [h]
                simp [icell, List.getD, List.getElem?_drop, Nat.add_comm]
          clear hown7 hgrow7 hown5 F3
          have hER7 := Lib.hid (fun w' (hb : Bl w7 w') => hER.out.bl (hb7.tr hb))
          have mt : ((ownI k ++ othI j).drop 1).length ≤ maxLen := by rw [List.length_drop, la.out]; unfold maxLen; omega
          have P1 := Lib.hid (fun w' (hb : Bl w7 w') => home_any _ _ _ (ownI k ++ othI j) 1 w' (hER7.out w' hb) (Rd.below hI7 hb) m3.out)
          have P2 := Lib.hid (fun w' (hb : Bl w7 w') => home_any _ _ _ (othI j) 1 w' (hER7.out w' hb) (Rd.below hI2.out (hb7.tr hb)) m2.out)
          have P3 := Lib.hid (fun w' (hb : Bl w7 w') => home_any _ _ _ (ownI k) 1 w' (hER7.out w' hb) (Rd.below hI1.out (hb7.tr hb)) m1.out)
          have P4 := Lib.hid (fun w' (hb : Bl w7 w') => home_any _ _ _ ((ownI k ++ othI j).drop 1) 1 w' (hER7.out w' hb) (Rd.below hg7 hb) mt)
          have Q1 := Lib.hid (fun w' (hb : Bl w7 w') => among_ints _ _ _ (ownI k ++ othI j) 1 100 d w' (hER7.out w' hb) (Rd.below hI7 hb) m3.out (by omega) (by omega))
          have Q2 := Lib.hid (fun w' (hb : Bl w7 w') => among_ints _ _ _ (othI j) 1 0 d w' (hER7.out w' hb) (Rd.below hI2.out (hb7.tr hb)) m2.out (by omega) (by omega))
          have Q3 := Lib.hid (fun w' (hb : Bl w7 w') => among_ints _ _ _ [] 1 1 d w' (hER7.out w' hb) (ints_nil w') (by decide) (by omega) (by omega))
          rw [FA.out.h1] at P1
          rw [FA.out.h2] at P2
          rw [FA.out.h3] at P3
          rw [FA.out.h4] at P4
          rw [FA.out.a1] at Q1
          rw [FA.out.a2] at Q2
          rw [FA.out.a3] at Q3
          have S1 := Lib.hid (fun x y w' hx hy => same_any (ownI k) (ownI k) x y w' hx hy m1.out m1.out)
          have S2 := Lib.hid (fun x y w' hx hy => same_any (othI j) (othI j) x y w' hx hy m2.out m2.out)
          have S3 := Lib.hid (fun x y w' hx hy => same_any (ownI k ++ othI j) (ownI k ++ othI j) x y w' hx hy m3.out m3.out)
          rw [decide_eq_true rfl] at S1 S2 S3
          have J1 := Lib.hid (fun w' (hb : Bl w7 w') => Rd.below hI1.out (hb7.tr hb))
          have J2 := Lib.hid (fun w' (hb : Bl w7 w') => Rd.below hI2.out (hb7.tr hb))
          have J3 := Lib.hid (fun w' (hb : Bl w7 w') => Rd.below hI7 hb)
          have hbz := Lib.hid (hbr.out.tr hb7)
          have hq := Lib.hid ((Bl.rfl' w7).dr)
          obtain ⟨X, hX⟩ : ∃ X, 100 * ((k : Int) - 1) / k = X := ⟨_, rfl⟩
          have x1 : IntKind.i64.wrap ((k : Int) - 1) = (k : Int) - 1 := by rw [IntKind.wrap_i64]; omega
          have x2 : IntKind.i64.wrap (100 * ((k : Int) - 1)) = 100 * ((k : Int) - 1) := by rw [IntKind.wrap_i64]; omega
          have x3 : (100 * ((k : Int) - 1)).tdiv k = X := by rw [← hX]; exact Int.tdiv_eq_ediv_of_nonneg (by omega)
          have X0 : 0 ≤ X := by rw [← hX]; exact Int.ediv_nonneg (by omega) (by omega)
          have X1 : X ≤ 700 := by
            rw [← hX]
            exact Int.le_trans (Int.ediv_le_self _ (by omega)) (by omega)
          have x4 : IntKind.i64.wrap ((100 * ((k : Int) - 1)).tdiv k) = X := by rw [x3, IntKind.wrap_i64]; omega
          have x6 : ((k : Int) == 0) = false := beq_eq_false_iff_ne.2 (by omega)
          have x7 : (k : Int) ≠ 0 := by omega
          have x8 : ((100 : Int) == 100) = true := by decide
          have wX : IntKind.i64.wrap X = X := by rw [IntKind.wrap_i64]; omega
          have k0n : ¬ k = 0 := by omega
          have c71 : ¬ c7 = 1 := by omega
          have kj1 : 1 ≤ (k : Int) + (j : Int) := by omega
          have x9 : (X == X) = true := by simp
          rw [hX] at P4
          clear hX X0 X1 hER hER7 hI1 hI2 hI7 hg7 hb7 hb5 hbr FA FF mt
          go_wp2_with fail
          refine wp_region_held_drew (S := fun w' => True) (by kernel_rfl) ?_ (fun hHeld => ?_)
          · exact trivial
          refine wpAnyH_take (i := 0) (v := ?v0_1) rfl (by kernel_rfl) (by kernel_rfl) (by kernel_rfl) (fun _ _ _ h => h) (Or.inl ⟨by rfl, ?y0_1⟩) hHeld ?r0_1
          case y0_1 => (intro w hSw; (try dsimp only at hSw); go_split_ands; go_simp; try with_reducible rfl)
          try simp only [List.getElem_toArray, List.getElem_cons_succ, List.getElem_cons_zero, Act.put, List.setIfInBounds_toArray, List.set_cons_zero, List.set_cons_succ]
          refine wpAnyH_take (i := 1) (v := ?v1_2) rfl (by kernel_rfl) (by kernel_rfl) (by kernel_rfl) (fun _ _ _ h => h) (Or.inl ⟨by rfl, ?y1_2⟩) hHeld ?r1_2
          case y1_2 => (intro w hSw; (try dsimp only at hSw); go_split_ands; go_simp; try with_reducible rfl)
          try simp only [List.getElem_toArray, List.getElem_cons_succ, List.getElem_cons_zero, Act.put, List.setIfInBounds_toArray, List.set_cons_zero, List.set_cons_succ]
          refine wpAnyH_ready (rs := [2]) (by kernel_rfl) (by simp) ?_
          refine AllReadyH.cons rfl (fun K hK => ?_) AllReadyH.nil
          have hHeld' := hHeld
          try dsimp only at hHeld'
          go_split_ands
          go_simp
          refine (P1.out _ hq.out).mono ?_
          rintro e w' ⟨rfl, hn⟩
          have hq1 := hq.out.tr hn
          clear hq hn
          have hq := Lib.hid hq1
          clear hq1
          refine hK.out _ _ ?_ (fun hHeld => ?_)
          · exact trivial
          clear hK K
          try simp only [List.getElem_toArray, List.getElem_cons_succ, List.getElem_cons_zero, Act.put, List.setIfInBounds_toArray, List.set_cons_zero, List.set_cons_succ]
          refine wpAnyH_take (i := 3) (v := ?v3_3) rfl (by kernel_rfl) (by kernel_rfl) (by kernel_rfl) (fun _ _ _ h => h) (Or.inl ⟨by rfl, ?y3_3⟩) hHeld ?r3_3
          case y3_3 => (intro w hSw; (try dsimp only at hSw); go_split_ands; go_simp; try with_reducible rfl)
          try simp only [List.getElem_toArray, List.getElem_cons_succ, List.getElem_cons_zero, Act.put, List.setIfInBounds_toArray, List.set_cons_zero, List.set_cons_succ]
          refine wpAnyH_take (i := 4) (v := ?v4_4) rfl (by kernel_rfl) (by kernel_rfl) (by kernel_rfl) (fun _ _ _ h => h) (Or.inl ⟨by rfl, ?y4_4⟩) hHeld ?r4_4
          case y4_4 => (intro w hSw; (try dsimp only at hSw); go_split_ands; go_simp; try with_reducible rfl)
          try simp only [List.getElem_toArray, List.getElem_cons_succ, List.getElem_cons_zero, Act.put, List.setIfInBounds_toArray, List.set_cons_zero, List.set_cons_succ]
          refine wpAnyH_take (i := 5) (v := ?v5_5) rfl (by kernel_rfl) (by kernel_rfl) (by kernel_rfl) (fun _ _ _ h => h) (Or.inl ⟨by rfl, ?y5_5⟩) hHeld ?r5_5
          case y5_5 => (intro w hSw; (try dsimp only at hSw); go_split_ands; go_simp; try with_reducible rfl)
          try simp only [List.getElem_toArray, List.getElem_cons_succ, List.getElem_cons_zero, Act.put, List.setIfInBounds_toArray, List.set_cons_zero, List.set_cons_succ]
          refine wpAnyH_take (i := 6) (v := ?v6_6) rfl (by kernel_rfl) (by kernel_rfl) (by kernel_rfl) (fun _ _ _ h => h) (Or.inl ⟨by rfl, ?y6_6⟩) hHeld ?r6_6
          case y6_6 => (intro w hSw; (try dsimp only at hSw); go_split_ands; go_simp; try with_reducible rfl)
          try simp only [List.getElem_toArray, List.getElem_cons_succ, List.getElem_cons_zero, Act.put, List.setIfInBounds_toArray, List.set_cons_zero, List.set_cons_succ]
          refine wpAnyH_ready (rs := [7]) (by kernel_rfl) (by simp) ?_
          refine AllReadyH.cons rfl (fun K hK => ?_) AllReadyH.nil
          have hHeld' := hHeld
          try dsimp only at hHeld'
          go_split_ands
          go_simp
          refine (P2.out _ hq.out).mono ?_
          rintro e w' ⟨rfl, hn⟩
          have hq1 := hq.out.tr hn
          clear hq hn
          have hq := Lib.hid hq1
          clear hq1
          refine hK.out _ _ ?_ (fun hHeld => ?_)
          · exact trivial
          clear hK K
          try simp only [List.getElem_toArray, List.getElem_cons_succ, List.getElem_cons_zero, Act.put, List.setIfInBounds_toArray, List.set_cons_zero, List.set_cons_succ]
          refine wpAnyH_take (i := 8) (v := ?v8_7) rfl (by kernel_rfl) (by kernel_rfl) (by kernel_rfl) (fun _ _ _ h => h) (Or.inl ⟨by rfl, ?y8_7⟩) hHeld ?r8_7
          case y8_7 => (intro w hSw; (try dsimp only at hSw); go_split_ands; go_simp; try with_reducible rfl)
          try simp only [List.getElem_toArray, List.getElem_cons_succ, List.getElem_cons_zero, Act.put, List.setIfInBounds_toArray, List.set_cons_zero, List.set_cons_succ]
          refine wpAnyH_take (i := 9) (v := ?v9_8) rfl (by kernel_rfl) (by kernel_rfl) (by kernel_rfl) (fun _ _ _ h => h) (Or.inl ⟨by rfl, ?y9_8⟩) hHeld ?r9_8
          case y9_8 => (intro w hSw; (try dsimp only at hSw); go_split_ands; go_simp; try with_reducible rfl)
          try simp only [List.getElem_toArray, List.getElem_cons_succ, List.getElem_cons_zero, Act.put, List.setIfInBounds_toArray, List.set_cons_zero, List.set_cons_succ]
          refine wpAnyH_take (i := 10) (v := ?v10_9) rfl (by kernel_rfl) (by kernel_rfl) (by kernel_rfl) (fun _ _ _ h => h) (Or.inl ⟨by rfl, ?y10_9⟩) hHeld ?r10_9
          case y10_9 => (intro w hSw; (try dsimp only at hSw); go_split_ands; go_simp; try with_reducible rfl)
          try simp only [List.getElem_toArray, List.getElem_cons_succ, List.getElem_cons_zero, Act.put, List.setIfInBounds_toArray, List.set_cons_zero, List.set_cons_succ]
          refine wpAnyH_take (i := 11) (v := ?v11_10) rfl (by kernel_rfl) (by kernel_rfl) (by kernel_rfl) (fun _ _ _ h => h) (Or.inl ⟨by rfl, ?y11_10⟩) hHeld ?r11_10
          case y11_10 => (intro w hSw; (try dsimp only at hSw); go_split_ands; go_simp; try with_reducible rfl)
          try simp only [List.getElem_toArray, List.getElem_cons_succ, List.getElem_cons_zero, Act.put, List.setIfInBounds_toArray, List.set_cons_zero, List.set_cons_succ]
          refine wpAnyH_take (i := 12) (v := ?v12_11) rfl (by kernel_rfl) (by kernel_rfl) (by kernel_rfl) (fun _ _ _ h => h) (Or.inl ⟨by rfl, ?y12_11⟩) hHeld ?r12_11
          case y12_11 => (intro w hSw; (try dsimp only at hSw); go_split_ands; go_simp; try with_reducible rfl)
          try simp only [List.getElem_toArray, List.getElem_cons_succ, List.getElem_cons_zero, Act.put, List.setIfInBounds_toArray, List.set_cons_zero, List.set_cons_succ]
          refine wpAnyH_ready (rs := [13]) (by kernel_rfl) (by simp) ?_
          refine AllReadyH.cons rfl (fun K hK => ?_) AllReadyH.nil
          have hHeld' := hHeld
          try dsimp only at hHeld'
          go_split_ands
          go_simp
          refine (P3.out _ hq.out).mono ?_
          rintro e w' ⟨rfl, hn⟩
          have hq1 := hq.out.tr hn
          clear hq hn
          have hq := Lib.hid hq1
          clear hq1
          refine hK.out _ _ ?_ (fun hHeld => ?_)
          · exact trivial
          clear hK K
          try simp only [List.getElem_toArray, List.getElem_cons_succ, List.getElem_cons_zero, Act.put, List.setIfInBounds_toArray, List.set_cons_zero, List.set_cons_succ]
          refine wpAnyH_take (i := 14) (v := ?v14_12) rfl (by kernel_rfl) (by kernel_rfl) (by kernel_rfl) (fun _ _ _ h => h) (Or.inl ⟨by rfl, ?y14_12⟩) hHeld ?r14_12
          case y14_12 => (intro w hSw; (try dsimp only at hSw); go_split_ands; go_simp; try with_reducible rfl)
          try simp only [List.getElem_toArray, List.getElem_cons_succ, List.getElem_cons_zero, Act.put, List.setIfInBounds_toArray, List.set_cons_zero, List.set_cons_succ]
          refine wpAnyH_take (i := 15) (v := ?v15_13) rfl (by kernel_rfl) (by kernel_rfl) (by kernel_rfl) (fun _ _ _ h => h) (Or.inl ⟨by rfl, ?y15_13⟩) hHeld ?r15_13
          case y15_13 => (intro w hSw; (try dsimp only at hSw); go_split_ands; go_simp; try with_reducible rfl)
          try simp only [List.getElem_toArray, List.getElem_cons_succ, List.getElem_cons_zero, Act.put, List.setIfInBounds_toArray, List.set_cons_zero, List.set_cons_succ]
          refine wpAnyH_take (i := 16) (v := ?v16_14) rfl (by kernel_rfl) (by kernel_rfl) (by kernel_rfl) (fun _ _ _ h => h) (Or.inl ⟨by rfl, ?y16_14⟩) hHeld ?r16_14
          case y16_14 => (intro w hSw; (try dsimp only at hSw); go_split_ands; go_simp; try with_reducible rfl)
          try simp only [List.getElem_toArray, List.getElem_cons_succ, List.getElem_cons_zero, Act.put, List.setIfInBounds_toArray, List.set_cons_zero, List.set_cons_succ]
          refine wpAnyH_take (i := 17) (v := ?v17_15) rfl (by kernel_rfl) (by kernel_rfl) (by kernel_rfl) (fun _ _ _ h => h) (Or.inl ⟨by rfl, ?y17_15⟩) hHeld ?r17_15
          case y17_15 => (intro w hSw; (try dsimp only at hSw); go_split_ands; go_simp; try with_reducible rfl)
          try simp only [List.getElem_toArray, List.getElem_cons_succ, List.getElem_cons_zero, Act.put, List.setIfInBounds_toArray, List.set_cons_zero, List.set_cons_succ]
          refine wpAnyH_take (i := 18) (v := ?v18_16) rfl (by kernel_rfl) (by kernel_rfl) (by kernel_rfl) (fun _ _ _ h => h) (Or.inl ⟨by rfl, ?y18_16⟩) hHeld ?r18_16
          case y18_16 => (intro w hSw; (try dsimp only at hSw); go_split_ands; go_simp; try with_reducible rfl)
          try simp only [List.getElem_toArray, List.getElem_cons_succ, List.getElem_cons_zero, Act.put, List.setIfInBounds_toArray, List.set_cons_zero, List.set_cons_succ]
          refine wpAnyH_take (i := 19) (v := ?v19_17) rfl (by kernel_rfl) (by kernel_rfl) (by kernel_rfl) (fun _ _ _ h => h) (Or.inl ⟨by rfl, ?y19_17⟩) hHeld ?r19_17
          case y19_17 => (intro w hSw; (try dsimp only at hSw); go_split_ands; go_simp; try with_reducible rfl)
          try simp only [List.getElem_toArray, List.getElem_cons_succ, List.getElem_cons_zero, Act.put, List.setIfInBounds_toArray, List.set_cons_zero, List.set_cons_succ]
          refine wpAnyH_take (i := 21) (v := ?v21_18) rfl (by kernel_rfl) (by kernel_rfl) (by kernel_rfl) (fun _ _ _ h => h) (Or.inl ⟨by rfl, ?y21_18⟩) hHeld ?r21_18
          case y21_18 => (intro w hSw; (try dsimp only at hSw); go_split_ands; go_simp; try with_reducible rfl)
          try simp only [List.getElem_toArray, List.getElem_cons_succ, List.getElem_cons_zero, Act.put, List.setIfInBounds_toArray, List.set_cons_zero, List.set_cons_succ]
          refine wpAnyH_ready (rs := [20]) (by kernel_rfl) (by simp) ?_
          refine AllReadyH.cons rfl (fun K hK => ?_) AllReadyH.nil
          have hHeld' := hHeld
          try dsimp only at hHeld'
          go_split_ands
          go_simp
          refine (Q1.out _ hq.out).mono ?_
          rintro e w' ⟨x1v, rfl, hxx, hn⟩
          have hq1 := hq.out.tr hn
          clear hq hn
          have hq := Lib.hid hq1
          clear hq1
          replace hxx := Lib.hid hxx
          refine hK.out _ _ ?_ (fun hHeld => ?_)
          · exact trivial
          clear hK K
          try simp only [List.getElem_toArray, List.getElem_cons_succ, List.getElem_cons_zero, Act.put, List.setIfInBounds_toArray, List.set_cons_zero, List.set_cons_succ]
          refine wpAnyH_ready (rs := [22]) (by kernel_rfl) (by simp) ?_
          refine AllReadyH.cons rfl (fun K hK => ?_) AllReadyH.nil
          have hHeld' := hHeld
          try dsimp only at hHeld'
          go_split_ands
          go_simp
          refine (S1.out _ _ _ hxx.out (J1.out _ hq.out)).mono ?_
          rintro e w' ⟨rfl, hn⟩
          clear hxx
          have hq1 := hq.out.tr hn
          clear hq hn
          have hq := Lib.hid hq1
          clear hq1
          refine hK.out _ _ ?_ (fun hHeld => ?_)
          · exact trivial
          clear hK K
          try simp only [List.getElem_toArray, List.getElem_cons_succ, List.getElem_cons_zero, Act.put, List.setIfInBounds_toArray, List.set_cons_zero, List.set_cons_succ]
          refine wpAnyH_take (i := 23) (v := ?v23_19) rfl (by kernel_rfl) (by kernel_rfl) (by kernel_rfl) (fun _ _ _ h => h) (Or.inl ⟨by rfl, ?y23_19⟩) hHeld ?r23_19
          case y23_19 => (intro w hSw; (try dsimp only at hSw); go_split_ands; go_simp; try with_reducible rfl)
          try simp only [List.getElem_toArray, List.getElem_cons_succ, List.getElem_cons_zero, Act.put, List.setIfInBounds_toArray, List.set_cons_zero, List.set_cons_succ]
          refine wpAnyH_take (i := 24) (v := ?v24_20) rfl (by kernel_rfl) (by kernel_rfl) (by kernel_rfl) (fun _ _ _ h => h) (Or.inl ⟨by rfl, ?y24_20⟩) hHeld ?r24_20
          case y24_20 => (intro w hSw; (try dsimp only at hSw); go_split_ands; go_simp; try with_reducible rfl)
          try simp only [List.getElem_toArray, List.getElem_cons_succ, List.getElem_cons_zero, Act.put, List.setIfInBounds_toArray, List.set_cons_zero, List.set_cons_succ]
          refine wpAnyH_take (i := 25) (v := ?v25_21) rfl (by kernel_rfl) (by kernel_rfl) (by kernel_rfl) (fun _ _ _ h => h) (Or.inl ⟨by rfl, ?y25_21⟩) hHeld ?r25_21
          case y25_21 => (intro w hSw; (try dsimp only at hSw); go_split_ands; go_simp; try with_reducible rfl)
          try simp only [List.getElem_toArray, List.getElem_cons_succ, List.getElem_cons_zero, Act.put, List.setIfInBounds_toArray, List.set_cons_zero, List.set_cons_succ]
          refine wpAnyH_take (i := 26) (v := ?v26_22) rfl (by kernel_rfl) (by kernel_rfl) (by kernel_rfl) (fun _ _ _ h => h) (Or.inl ⟨by rfl, ?y26_22⟩) hHeld ?r26_22
          case y26_22 => (intro w hSw; (try dsimp only at hSw); go_split_ands; go_simp; try with_reducible rfl)
          try simp only [List.getElem_toArray, List.getElem_cons_succ, List.getElem_cons_zero, Act.put, List.setIfInBounds_toArray, List.set_cons_zero, List.set_cons_succ]
          refine wpAnyH_take (i := 27) (v := ?v27_23) rfl (by kernel_rfl) (by kernel_rfl) (by kernel_rfl) (fun _ _ _ h => h) (Or.inl ⟨by rfl, ?y27_23⟩) hHeld ?r27_23
          case y27_23 => (intro w hSw; (try dsimp only at hSw); go_split_ands; go_simp; try with_reducible rfl)
          try simp only [List.getElem_toArray, List.getElem_cons_succ, List.getElem_cons_zero, Act.put, List.setIfInBounds_toArray, List.set_cons_zero, List.set_cons_succ]
          refine wpAnyH_take (i := 29) (v := ?v29_24) rfl (by kernel_rfl) (by kernel_rfl) (by kernel_rfl) (fun _ _ _ h => h) (Or.inl ⟨by rfl, ?y29_24⟩) hHeld ?r29_24
          case y29_24 => (intro w hSw; (try dsimp only at hSw); go_split_ands; go_simp; try with_reducible rfl)
          try simp only [List.getElem_toArray, List.getElem_cons_succ, List.getElem_cons_zero, Act.put, List.setIfInBounds_toArray, List.set_cons_zero, List.set_cons_succ]
          refine wpAnyH_ready (rs := [28]) (by kernel_rfl) (by simp) ?_
          refine AllReadyH.cons rfl (fun K hK => ?_) AllReadyH.nil
          have hHeld' := hHeld
          try dsimp only at hHeld'
          go_split_ands
          go_simp
          refine (Q2.out _ hq.out).mono ?_
          rintro e w' ⟨x2v, rfl, hxx, hn⟩
          have hq1 := hq.out.tr hn
          clear hq hn
          have hq := Lib.hid hq1
          clear hq1
          replace hxx := Lib.hid hxx
          refine hK.out _ _ ?_ (fun hHeld => ?_)
          · exact trivial
          clear hK K
          try simp only [List.getElem_toArray, List.getElem_cons_succ, List.getElem_cons_zero, Act.put, List.setIfInBounds_toArray, List.set_cons_zero, List.set_cons_succ]
          refine wpAnyH_ready (rs := [30]) (by kernel_rfl) (by simp) ?_
          refine AllReadyH.cons rfl (fun K hK => ?_) AllReadyH.nil
          have hHeld' := hHeld
          try dsimp only at hHeld'
          go_split_ands
          go_simp
          refine (S2.out _ _ _ hxx.out (J2.out _ hq.out)).mono ?_
          rintro e w' ⟨rfl, hn⟩
          clear hxx
          have hq1 := hq.out.tr hn
          clear hq hn
          have hq := Lib.hid hq1
          clear hq1
          refine hK.out _ _ ?_ (fun hHeld => ?_)
          · exact trivial
          clear hK K
          try simp only [List.getElem_toArray, List.getElem_cons_succ, List.getElem_cons_zero, Act.put, List.setIfInBounds_toArray, List.set_cons_zero, List.set_cons_succ]
          refine wpAnyH_take (i := 31) (v := ?v31_25) rfl (by kernel_rfl) (by kernel_rfl) (by kernel_rfl) (fun _ _ _ h => h) (Or.inl ⟨by rfl, ?y31_25⟩) hHeld ?r31_25
          case y31_25 => (intro w hSw; (try dsimp only at hSw); go_split_ands; go_simp; try with_reducible rfl)
          try simp only [List.getElem_toArray, List.getElem_cons_succ, List.getElem_cons_zero, Act.put, List.setIfInBounds_toArray, List.set_cons_zero, List.set_cons_succ]
          refine wpAnyH_take (i := 32) (v := ?v32_26) rfl (by kernel_rfl) (by kernel_rfl) (by kernel_rfl) (fun _ _ _ h => h) (Or.inl ⟨by rfl, ?y32_26⟩) hHeld ?r32_26
          case y32_26 => (intro w hSw; (try dsimp only at hSw); go_split_ands; go_simp; try with_reducible rfl)
          try simp only [List.getElem_toArray, List.getElem_cons_succ, List.getElem_cons_zero, Act.put, List.setIfInBounds_toArray, List.set_cons_zero, List.set_cons_succ]
          refine wpAnyH_take (i := 33) (v := ?v33_27) rfl (by kernel_rfl) (by kernel_rfl) (by kernel_rfl) (fun _ _ _ h => h) (Or.inl ⟨by rfl, ?y33_27⟩) hHeld ?r33_27
          case y33_27 => (intro w hSw; (try dsimp only at hSw); go_split_ands; go_simp; try with_reducible rfl)
          try simp only [List.getElem_toArray, List.getElem_cons_succ, List.getElem_cons_zero, Act.put, List.setIfInBounds_toArray, List.set_cons_zero, List.set_cons_succ]
          refine wpAnyH_take (i := 34) (v := ?v34_28) rfl (by kernel_rfl) (by kernel_rfl) (by kernel_rfl) (fun _ _ _ h => h) (Or.inl ⟨by rfl, ?y34_28⟩) hHeld ?r34_28
          case y34_28 => (intro w hSw; (try dsimp only at hSw); go_split_ands; go_simp; try with_reducible rfl)
          try simp only [List.getElem_toArray, List.getElem_cons_succ, List.getElem_cons_zero, Act.put, List.setIfInBounds_toArray, List.set_cons_zero, List.set_cons_succ]
          refine wpAnyH_take (i := 36) (v := ?v36_29) rfl (by kernel_rfl) (by kernel_rfl) (by kernel_rfl) (fun _ _ _ h => h) (Or.inl ⟨by rfl, ?y36_29⟩) hHeld ?r36_29
          case y36_29 => (intro w hSw; (try dsimp only at hSw); go_split_ands; go_simp; try with_reducible rfl)
          try simp only [List.getElem_toArray, List.getElem_cons_succ, List.getElem_cons_zero, Act.put, List.setIfInBounds_toArray, List.set_cons_zero, List.set_cons_succ]
          refine wpAnyH_ready (rs := [35]) (by kernel_rfl) (by simp) ?_
          refine AllReadyH.cons rfl (fun K hK => ?_) AllReadyH.nil
          have hHeld' := hHeld
          try dsimp only at hHeld'
          go_split_ands
          go_simp
          refine (Q3.out _ hq.out).mono ?_
          rintro e w' ⟨x3v, rfl, hxx, hn⟩
          have hq1 := hq.out.tr hn
          clear hq hn
          have hq := Lib.hid hq1
          clear hq1
          replace hxx := Lib.hid hxx
          refine hK.out _ _ ?_ (fun hHeld => ?_)
          · exact trivial
          clear hK K
          try simp only [List.getElem_toArray, List.getElem_cons_succ, List.getElem_cons_zero, Act.put, List.setIfInBounds_toArray, List.set_cons_zero, List.set_cons_succ]
          refine wpAnyH_ready (rs := [37]) (by kernel_rfl) (by simp) ?_
          refine AllReadyH.cons rfl (fun K hK => ?_) AllReadyH.nil
          have hHeld' := hHeld
          try dsimp only at hHeld'
          go_split_ands
          go_simp
          refine (S3.out _ _ _ hxx.out (J3.out _ hq.out)).mono ?_
          rintro e w' ⟨rfl, hn⟩
          clear hxx
          have hq1 := hq.out.tr hn
          clear hq hn
          have hq := Lib.hid hq1
          clear hq1
          refine hK.out _ _ ?_ (fun hHeld => ?_)
          · exact trivial
          clear hK K
          try simp only [List.getElem_toArray, List.getElem_cons_succ, List.getElem_cons_zero, Act.put, List.setIfInBounds_toArray, List.set_cons_zero, List.set_cons_succ]
          refine wpAnyH_take (i := 38) (v := ?v38_30) rfl (by kernel_rfl) (by kernel_rfl) (by kernel_rfl) (fun _ _ _ h => h) (Or.inl ⟨by rfl, ?y38_30⟩) hHeld ?r38_30
          case y38_30 => (intro w hSw; (try dsimp only at hSw); go_split_ands; go_simp; try with_reducible rfl)
          try simp only [List.getElem_toArray, List.getElem_cons_succ, List.getElem_cons_zero, Act.put, List.setIfInBounds_toArray, List.set_cons_zero, List.set_cons_succ]
          refine wpAnyH_take (i := 39) (v := ?v39_31) rfl (by kernel_rfl) (by kernel_rfl) (by kernel_rfl) (fun _ _ _ h => h) (Or.inl ⟨by rfl, ?y39_31⟩) hHeld ?r39_31
          case y39_31 => (intro w hSw; (try dsimp only at hSw); go_split_ands; go_simp; try with_reducible rfl)
          try simp only [List.getElem_toArray, List.getElem_cons_succ, List.getElem_cons_zero, Act.put, List.setIfInBounds_toArray, List.set_cons_zero, List.set_cons_succ]
          refine wpAnyH_take (i := 40) (v := ?v40_32) rfl (by kernel_rfl) (by kernel_rfl) (by kernel_rfl) (fun _ _ _ h => h) (Or.inl ⟨by rfl, ?y40_32⟩) hHeld ?r40_32
          case y40_32 => (intro w hSw; (try dsimp only at hSw); go_split_ands; go_simp; try with_reducible rfl)
          try simp only [List.getElem_toArray, List.getElem_cons_succ, List.getElem_cons_zero, Act.put, List.setIfInBounds_toArray, List.set_cons_zero, List.set_cons_succ]
          refine wpAnyH_take (i := 41) (v := ?v41_33) rfl (by kernel_rfl) (by kernel_rfl) (by kernel_rfl) (fun _ _ _ h => h) (Or.inl ⟨by rfl, ?y41_33⟩) hHeld ?r41_33
          case y41_33 => (intro w hSw; (try dsimp only at hSw); go_split_ands; go_simp; try with_reducible rfl)
          try simp only [List.getElem_toArray, List.getElem_cons_succ, List.getElem_cons_zero, Act.put, List.setIfInBounds_toArray, List.set_cons_zero, List.set_cons_succ]
          refine wpAnyH_take (i := 42) (v := ?v42_34) rfl (by kernel_rfl) (by kernel_rfl) (by kernel_rfl) (fun _ _ _ h => h) (Or.inl ⟨by rfl, ?y42_34⟩) hHeld ?r42_34
          case y42_34 => (intro w hSw; (try dsimp only at hSw); go_split_ands; go_simp; try with_reducible rfl)
          try simp only [List.getElem_toArray, List.getElem_cons_succ, List.getElem_cons_zero, Act.put, List.setIfInBounds_toArray, List.set_cons_zero, List.set_cons_succ]
          refine wpAnyH_take (i := 44) (v := ?v44_35) rfl (by kernel_rfl) (by kernel_rfl) (by kernel_rfl) (fun _ _ _ h => h) (Or.inl ⟨by rfl, ?y44_35⟩) hHeld ?r44_35
          case y44_35 => (intro w hSw; (try dsimp only at hSw); go_split_ands; go_simp; try with_reducible rfl)
          try simp only [List.getElem_toArray, List.getElem_cons_succ, List.getElem_cons_zero, Act.put, List.setIfInBounds_toArray, List.set_cons_zero, List.set_cons_succ]
          refine wpAnyH_take (i := 45) (v := ?v45_36) rfl (by kernel_rfl) (by kernel_rfl) (by kernel_rfl) (fun _ _ _ h => h) (Or.inl ⟨by rfl, ?y45_36⟩) hHeld ?r45_36
          case y45_36 => (intro w hSw; (try dsimp only at hSw); go_split_ands; go_simp; try with_reducible rfl)
          try simp only [List.getElem_toArray, List.getElem_cons_succ, List.getElem_cons_zero, Act.put, List.setIfInBounds_toArray, List.set_cons_zero, List.set_cons_succ]
          refine wpAnyH_take (i := 46) (v := ?v46_37) rfl (by kernel_rfl) (by kernel_rfl) (by kernel_rfl) (fun _ _ _ h => h) (Or.inl ⟨by rfl, ?y46_37⟩) hHeld ?r46_37
          case y46_37 => (intro w hSw; (try dsimp only at hSw); go_split_ands; go_simp; try with_reducible rfl)
          try simp only [List.getElem_toArray, List.getElem_cons_succ, List.getElem_cons_zero, Act.put, List.setIfInBounds_toArray, List.set_cons_zero, List.set_cons_succ]
          refine wpAnyH_take (i := 47) (v := ?v47_38) rfl (by kernel_rfl) (by kernel_rfl) (by kernel_rfl) (fun _ _ _ h => h) (Or.inl ⟨by rfl, ?y47_38⟩) hHeld ?r47_38
          case y47_38 => (intro w hSw; (try dsimp only at hSw); go_split_ands; go_simp; try with_reducible rfl)
          try simp only [List.getElem_toArray, List.getElem_cons_succ, List.getElem_cons_zero, Act.put, List.setIfInBounds_toArray, List.set_cons_zero, List.set_cons_succ]
          refine wpAnyH_take (i := 48) (v := ?v48_39) rfl (by kernel_rfl) (by kernel_rfl) (by kernel_rfl) (fun _ _ _ h => h) (Or.inl ⟨by rfl, ?y48_39⟩) hHeld ?r48_39
          case y48_39 => (intro w hSw; (try dsimp only at hSw); go_split_ands; go_simp; try with_reducible rfl)
          try simp only [List.getElem_toArray, List.getElem_cons_succ, List.getElem_cons_zero, Act.put, List.setIfInBounds_toArray, List.set_cons_zero, List.set_cons_succ]
          refine wpAnyH_ready (rs := [43]) (by kernel_rfl) (by simp) ?_
          refine AllReadyH.cons rfl (fun K hK => ?_) AllReadyH.nil
          have hHeld' := hHeld
          try dsimp only at hHeld'
          go_split_ands
          go_simp
          refine (P4.out _ hq.out).mono ?_
          rintro e w' ⟨rfl, hn⟩
          have hq1 := hq.out.tr hn
          clear hq hn
          have hq := Lib.hid hq1
          clear hq1
          refine hK.out _ _ ?_ (fun hHeld => ?_)
          · exact trivial
          clear hK K
          try simp only [List.getElem_toArray, List.getElem_cons_succ, List.getElem_cons_zero, Act.put, List.setIfInBounds_toArray, List.set_cons_zero, List.set_cons_succ]
          refine wpAnyH_take (i := 49) (v := ?v49_40) rfl (by kernel_rfl) (by kernel_rfl) (by kernel_rfl) (fun _ _ _ h => h) (Or.inl ⟨by rfl, ?y49_40⟩) hHeld ?r49_40
          case y49_40 => (intro w hSw; (try dsimp only at hSw); go_split_ands; go_simp; try with_reducible rfl)
          try simp only [List.getElem_toArray, List.getElem_cons_succ, List.getElem_cons_zero, Act.put, List.setIfInBounds_toArray, List.set_cons_zero, List.set_cons_succ]
          refine wpAnyH_take (i := 50) (v := ?v50_41) rfl (by kernel_rfl) (by kernel_rfl) (by kernel_rfl) (fun _ _ _ h => h) (Or.inl ⟨by rfl, ?y50_41⟩) hHeld ?r50_41
          case y50_41 => (intro w hSw; (try dsimp only at hSw); go_split_ands; go_simp; try with_reducible rfl)
          try simp only [List.getElem_toArray, List.getElem_cons_succ, List.getElem_cons_zero, Act.put, List.setIfInBounds_toArray, List.set_cons_zero, List.set_cons_succ]
          refine wpAnyH_take (i := 51) (v := ?v51_42) rfl (by kernel_rfl) (by kernel_rfl) (by kernel_rfl) (fun _ _ _ h => h) (Or.inl ⟨by rfl, ?y51_42⟩) hHeld ?r51_42
          case y51_42 => (intro w hSw; (try dsimp only at hSw); go_split_ands; go_simp; try with_reducible rfl)
          try simp only [List.getElem_toArray, List.getElem_cons_succ, List.getElem_cons_zero, Act.put, List.setIfInBounds_toArray, List.set_cons_zero, List.set_cons_succ]
          refine wpAnyH_ready (rs := [52]) (by kernel_rfl) (by simp) ?_
          refine AllReadyH.cons rfl (fun K hK => ?_) AllReadyH.nil
          have hHeld' := hHeld
          try dsimp only at hHeld'
          go_split_ands
          go_simp
          refine (LV.out _).mono ?_
          rintro e w' ⟨rfl, hn⟩
          have hq1 := hq.out.tr hn
          clear hq hn
          have hq := Lib.hid hq1
          clear hq1
          refine hK.out _ _ ?_ (fun hHeld => ?_)
          · exact trivial
          clear hK K
          try simp only [List.getElem_toArray, List.getElem_cons_succ, List.getElem_cons_zero, Act.put, List.setIfInBounds_toArray, List.set_cons_zero, List.set_cons_succ]
          refine wpAnyH_take (i := 53) (v := ?v53_43) rfl (by kernel_rfl) (by kernel_rfl) (by kernel_rfl) (fun _ _ _ h => h) (Or.inl ⟨by rfl, ?y53_43⟩) hHeld ?r53_43
          case y53_43 => (intro w hSw; (try dsimp only at hSw); go_split_ands; go_simp; try with_reducible rfl)
          try simp only [List.getElem_toArray, List.getElem_cons_succ, List.getElem_cons_zero, Act.put, List.setIfInBounds_toArray, List.set_cons_zero, List.set_cons_succ]
          refine wpAnyH_take (i := 54) (v := ?v54_44) rfl (by kernel_rfl) (by kernel_rfl) (by kernel_rfl) (fun _ _ _ h => h) (Or.inl ⟨by rfl, ?y54_44⟩) hHeld ?r54_44
          case y54_44 => (intro w hSw; (try dsimp only at hSw); go_split_ands; go_simp; try with_reducible rfl)
          try simp only [List.getElem_toArray, List.getElem_cons_succ, List.getElem_cons_zero, Act.put, List.setIfInBounds_toArray, List.set_cons_zero, List.set_cons_succ]
          refine wpAnyH_done (by kernel_rfl) ?_ _
          go_wp2_with fail
          go_ret
          exact ⟨rfl, hbz.out.tr hq.out⟩
end Go.Proofs.Ytjajhebnafaflaa.zonesSpill
