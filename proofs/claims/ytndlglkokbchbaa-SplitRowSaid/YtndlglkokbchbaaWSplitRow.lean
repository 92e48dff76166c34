/-
  SplitRow is true for every input: in whatever row parts stand, each gets as many; a part of no weight changes nothing. No condition.
-/
import Derived.Test.YtndlglkokbchbaaSpL
import Derived.Test.YtndlglkokbchbaaAppM
import Derived.Test.YtndlglkokbchbaaSame
import Derived.Deep.CutRange
namespace Go.Proofs.Ytndlglkokbchbaa.splitRow
open Go.ChangeShapes Go.WideShapes Go.ChangeAt Go.RowKit
open Go.Proofs.Ytndlglkokbchbaa.split
set_option linter.unusedVariables false
set_option linter.unusedSimpArgs false

set_option maxHeartbeats 16000000 in
theorem walk {w : World} (v0 : Value) (z0 : List Int) (hv0 : IntsAt w v0 z0) (hz0 : i64ok z0) (hm0 : z0.length ≤ maxLen) (f : Int) (l1 : -9223372036854775808 ≤ f) (u1 : f ≤ 9223372036854775807) :
    Calls Try.prog 7 #[v0, I f] w fun e w' => e = .returned (.bool true) ∧ Bl w w' := by
  have MD := Lib.hid (made_any z0 v0 w hv0 hz0 hm0)
  have LV := Lib.hid lives_any
  obtain ⟨iu, hiu, zu0, zu1, zu2⟩ := info_parts infoP
  replace hv0 := Lib.hid hv0
  go_enter Try.func7, Try.ntmps7
  go_wp2_with fail
  with_reducible refine (MD.out).mono ?_
  rintro e w1 ⟨v, R, rfl, hm, ho, hb1⟩
  have hlen := hm.len
  have hp := (own_parts ho (by omega) hm.i64).ok hm.ok
  obtain ⟨a, g, cap, rfl, hg, hc1, hc2, hr⟩ := ho.row (by decide)
  have A1 := Lib.hid (fun w => around_any f (R.length : Int) w l1 u1 (by omega) (by omega))
  have f0 := around_lo f (R.length : Int) (by omega); have f1 := around_hi f (R.length : Int) (by omega)
  obtain ⟨x, hx⟩ : ∃ z_, (around f (R.length : Int)) = z_ := ⟨_, rfl⟩
  rw [hx] at A1 f0 f1
  obtain ⟨k, rfl⟩ : ∃ k : Nat, x = (k : Int) := ⟨x.toNat, by omega⟩
  have hk : k < R.length := by omega
  obtain ⟨h1, -⟩ := hr (by omega)
  subst h1
  clear hx l1 u1 ho MD
  replace hb1 := Lib.hid hb1
  replace hm := Lib.hid hm
  replace hp := Lib.hid hp
  replace hr := Lib.hid hr
  go_upto_region 3 with (with_reducible refine (A1.out _).mono ?_; rintro e w' ⟨rfl, rfl⟩)
  have NA := Lib.hid (fun w' (hb : Bl w1 w') => (by
    have h := ((hr.out.bl hb).part pB_len k (R.length - k) (by omega))
    rw [List.take_of_length_le (by rw [List.length_drop]; omega)] at h
    obtain ⟨ad, h1, h2⟩ := part_cells h pB_len (by rw [List.length_drop]; omega)
    simp only [Option.map_some, Option.some.injEq, Nat.zero_add] at h1
    subst h1
    exact h2 : ∀ j u, (flatB pB (R.drop k))[j]? = some u → w'.cell? ((⟨g, k * 2, none⟩ : Addr).add j) = some u))
  have NB := Lib.hid (fun w' (hb : Bl w1 w') => (by
    by_cases hk0 : k = 0
    · subst hk0
      intro j u hj
      simp [flatB] at hj
    · have h := ((hr.out.bl hb).part pB_len 0 k (by omega))
      rw [List.drop_zero] at h
      obtain ⟨ad, h1, h2⟩ := part_cells h pB_len (by rw [List.length_take]; omega)
      simp only [Option.map_some, Option.some.injEq, Nat.zero_add, Nat.zero_mul] at h1
      subst h1
      exact h2 : ∀ j u, (flatB pB (R.take k))[j]? = some u → w'.cell? ((⟨g, 0, none⟩ : Addr).add j) = some u))
  have hone : ∀ A : List Pt, ∀ u ∈ flatB pB A, u.oneCell' = true := by
    intro A
    induction A with
    | nil => intro u hu; simp [flatB] at hu
    | cons x A ih =>
      intro u hu
      rcases List.mem_append.1 (show u ∈ pB x ++ flatB pB A from hu) with h | h
      · simp at h; rcases h with rfl | rfl <;> rfl
      · exact ih u h
  have hbd : Bl w1 w1.drew := (Bl.rfl' w1).dr
  have hown0 := Lib.hid (World.ownsRow_lit (base := w1.heap.size) (e := 25) (size := 2) w1.drew #[] 0 hbd.size (by decide) (by simp))
  have hba := hbd.al (.cells #[] 25)
  have hlA : (flatB pB (R.drop k)).length = (R.length - k) * 2 := by rw [flatB_len pB_len, List.length_drop]
  have hlB : (flatB pB (R.take k)).length = k * 2 := by rw [flatB_len pB_len, List.length_take, Nat.min_eq_left (by omega)]
  replace hone := Lib.hid hone
  go_region_held_law (fun w' => Bl w1 w')
    ((go_split_ands; first | exact hb8 | exact hb7 | exact hba | exact hbd))
    (first
      | (refine step_append_many rfl (.tmp 19) (.tmp 22) 22 rfl w1.heap.size 25 iu (.agg #[I 0, I 0]) 2 16 Try.underlying22 hiu zu0 zu1 zu2 rfl (by decide) _ 0 [] (by first | rfl | simp [Act.eval, Act.put]) hown0.out ⟨g, k * 2, none⟩ (R.length - k) (cap - k) (flatB pB (R.drop k)) hlA (NA.out _ hba) (hone.out _) (by first | rfl | simp [Act.eval, Act.put]) (by omega) (by omega) (by simp) ?_; intro v7 w7 hown7 hgrow7; have hb7 : Bl w1 w7 := hba.grown hgrow7 (fun k hk => (hown0.out.lt k hk).1); replace hown7 := Lib.hid hown7; clear hgrow7)
      | (refine step_append_many rfl (.tmp 23) (.tmp 26) 22 rfl w1.heap.size 25 iu (.agg #[I 0, I 0]) 2 16 Try.underlying22 hiu zu0 zu1 zu2 rfl (by decide) _ _ _ (by first | rfl | simp [Act.eval, Act.put]) hown7.out ⟨g, 0, none⟩ k cap (flatB pB (R.take k)) hlB (NB.out _ hb7) (hone.out _) (by first | rfl | simp [Act.eval, Act.put]) (by omega) (by omega) hb7.size ?_; intro v8 w8 hown8 hgrow8; have hb8 : Bl w1 w8 := hb7.grown hgrow8 (fun k hk => (hown7.out.lt k hk).1); replace hown8 := Lib.hid hown8; clear hgrow8))
  all_goals
    have hmo := hm.out
    have hpos := hmo.ahd_pos
    have hle := hmo.ahd_le R.length (Nat.le_refl _)
    obtain ⟨m, hmm⟩ : ∃ m : Nat, ahd R R.length = (m : Int) := ⟨(ahd R R.length).toNat, by omega⟩
    rw [hmm] at hpos hle
    have hm36 : m ≤ 36 := by omega
    have hyo : OwnB pB 2 25 w8 w1.heap.size v8 (R.drop k ++ R.take k) := by
      have h := hown8.out
      rw [List.nil_append, ← flatB_app] at h
      unfold OwnB
      rw [show (R.drop k ++ R.take k).length = 0 + (R.length - k) + k by rw [List.length_append, List.length_drop, List.length_take]; omega]
      exact h
    have hyL : (R.drop k ++ R.take k).length = R.length := by rw [List.length_append, List.length_drop, List.length_take]; omega
    have hya := ahd_turn R k
    have hyw := wsum_turn R k
    have hyi : ∀ x ∈ R.drop k ++ R.take k, x ∈ R := fun x hx => (List.mem_append.1 hx).elim (fun h => List.mem_of_mem_drop h) (fun h => List.mem_of_mem_take h)
    obtain ⟨Y, hY⟩ : ∃ Y, R.drop k ++ R.take k = Y := ⟨_, rfl⟩
    rw [hY] at hyo hyL hya hyi
    simp only [hY] at hyw
    rw [hmm] at hya
    have hyok : okP Y := ⟨fun x hx => hmo.ok.1 x (hyi x hx), by omega⟩
    have hyp := (own_parts hyo (by omega) (fun x hx => hmo.i64 x (hyi x hx))).ok hyok
    have hyin := pick_in hyok (by omega) (fun i hi => by
      have hx : Y.getD i p0 ∈ Y := by simp [List.getD, List.getElem?_eq_getElem hi]
      obtain ⟨j, hj, he⟩ := getD_of (hyi _ hx)
      rw [← he]
      have := hmo.srv j hj; omega)
    have hin := pick_in hmo.ok (by omega) (fun i hi => by have := hmo.srv i hi; omega)
    obtain ⟨ya, yg, yc, hvy, -, -, -, -⟩ := hyo.row (by decide)
    subst hvy
    have hlitZ := Lib.hid (World.ownsRow_lit (base := w1.heap.size) (e := 25) (size := 2) w8 #[I 9, I 0] 1 hb8.size (by decide) (by simp))
    have hbz := hb8.al (.cells #[I 9, I 0] 25)
    have NZ := Lib.hid (by
      obtain ⟨ad, h1, h2⟩ := part_cells (hr.out.bl hbz) pB_len (by omega)
      cases h1
      exact h2 : ∀ j u, (flatB pB R)[j]? = some u → (w8.alloc (.cells #[I 9, I 0] 25)).cell? ((⟨g, 0, none⟩ : Addr).add j) = some u)
    have hlR : (flatB pB R).length = R.length * 2 := flatB_len pB_len R
    clear hown8 hown7 hown0 NA NB hyo hY hlA hlB
    replace hmm := Lib.hid hmm
    replace hm36 := Lib.hid hm36
    replace hya := Lib.hid hya
    replace hyw := Lib.hid hyw
    replace hyi := Lib.hid hyi
    replace hyok := Lib.hid hyok
    replace hyp := Lib.hid hyp
    replace hyin := Lib.hid hyin
    replace hin := Lib.hid hin
    replace hb8 := Lib.hid hb8
    replace hbz := Lib.hid hbz
    go_wp2_with (at_builtin; refine wpList_append_many rfl (.tmp 29) (.tmp 30) 22 rfl w1.heap.size 25 iu (.agg #[I 0, I 0]) 2 16 Try.underlying22 hiu zu0 zu1 zu2 rfl (by decide) _ 1 _ (by first | rfl | simp [Act.eval, Act.put]) hlitZ.out ⟨g, 0, none⟩ R.length cap (flatB pB R) hlR NZ.out (hone.out _) (by first | rfl | simp [Act.eval, Act.put]) (by omega) (by omega) hbz.out.size ?_)
    intro v9 w9 hown9 hgrow9
    have hb9 := hbz.out.grown hgrow9 (fun k hk => (hlitZ.out.lt k hk).1)
    have hzo : OwnB pB 2 25 w9 w1.heap.size v9 (⟨9, 0⟩ :: R) := by
      unfold OwnB
      rw [show ((⟨9, 0⟩ : Pt) :: R).length = 1 + R.length by simp; omega]
      exact hown9
    have hza : ahd ((⟨9, 0⟩ : Pt) :: R) ((⟨9, 0⟩ : Pt) :: R).length = (m : Int) := by
      have h := ahd_app [(⟨9, 0⟩ : Pt)] R
      rw [hmm.out] at h
      simpa [ahd] using h
    have hzw : ∀ s : Int, wsum ((⟨9, 0⟩ : Pt) :: R) s = wsum R s := fun s => by
      have h := wsum_app [(⟨9, 0⟩ : Pt)] R s
      rw [wsum_one] at h
      have h0 : (if (9 : Int) = s then (0 : Int) else 0) = 0 := by split <;> rfl
      rw [h0, Int.zero_add] at h
      exact h
    have hzi : ∀ x ∈ (⟨9, 0⟩ : Pt) :: R, (1 ≤ x.s ∧ x.s ≤ 10) ∧ (0 ≤ x.w ∧ x.w ≤ 9) := fun x hx => by
      rcases List.mem_cons.1 hx with rfl | hx
      · exact ⟨by decide, by decide⟩
      · obtain ⟨j, hj, rfl⟩ := getD_of hx
        have h1 := hmo.srv j hj; have h2 := hmo.wgt j hj
        omega
    have hzL : ((⟨9, 0⟩ : Pt) :: R).length = R.length + 1 := rfl
    obtain ⟨Z, hZ⟩ : ∃ Z, (⟨9, 0⟩ : Pt) :: R = Z := ⟨_, rfl⟩
    rw [hZ] at hzo hza hzi hzL
    simp only [hZ] at hzw
    have hzok : okP Z := ⟨fun x hx => by have := hzi x hx; omega, by omega⟩
    have hzp := (own_parts hzo (by omega) (fun x hx => by have := hzi x hx; omega)).ok hzok
    have hzin := pick_in hzok (by omega) (fun i hi => by
      have hx : Z.getD i p0 ∈ Z := by simp [List.getD, List.getElem?_eq_getElem hi]
      exact (hzi _ hx).1)
    obtain ⟨za, zg, zc, hvz, -, -, -, -⟩ := hzo.row (by decide)
    subst hvz
    have eY := ccL_eq hmo.ok hyok.out hmm.out hya.out (fun s _ => (hyw.out s).symm)
    have eZ := ccL_eq hmo.ok hzok hmm.out hza (fun s _ => (hzw s).symm)
    have hb89 : Bl w8 w9 := ((Bl.rfl' w8).al _).grown hgrow9 (fun k hk => by simp only [Value.ownBlock, Option.some.injEq] at hk; omega)
    have SR := Lib.hid (fun w' (hb : Bl w9 w') => sum_any _ R w' (hp.out.bl (hb9.tr hb)))
    have SY := Lib.hid (fun w' (hb : Bl w9 w') => sum_any _ Y w' (hyp.out.bl (hb89.tr hb)))
    have SZ := Lib.hid (fun w' (hb : Bl w9 w') => sum_any _ Z w' (hzp.bl hb))
    simp only [hmm.out] at SR
    simp only [hya.out] at SY
    simp only [hza] at SZ
    have m1000 := hm36.out
    have CR := Lib.hid (fun w' (hb : Bl w9 w') => counts0 _ R m w' (hp.out.bl (hb9.tr hb)) hin.out (by omega))
    have CY := Lib.hid (fun w' (hb : Bl w9 w') => counts0 _ Y m w' (hyp.out.bl (hb89.tr hb)) hyin.out (by omega))
    have CZ := Lib.hid (fun w' (hb : Bl w9 w') => counts0 _ Z m w' (hzp.bl hb) hzin (by omega))
    simp only [hyL] at SY CY
    simp only [hzL] at SZ CZ
    have dm1 : decide ((m : Int) < 1) = false := decide_eq_false (by omega)
    have dm2 : decide ((m : Int) > 40) = false := decide_eq_false (by omega)
    have hmmb : ((m : Int) == (m : Int)) = true := by simp
    have hlR11 : ∀ R, (ccL R 0 m).length ≤ maxLen := fun R => by unfold ccL maxLen; simp
    clear hzo hza hzw hzi hZ hzok hzp hzin hown9 hgrow9 hlitZ NZ hone
    have hbq := Lib.hid (Bl.rfl' w9)
    replace eY := Lib.hid eY
    replace eZ := Lib.hid eZ
    replace hb89 := Lib.hid hb89
    replace hb9 := Lib.hid hb9
    replace hlR11 := Lib.hid hlR11
    go_wp2_with fail
    with_reducible refine (SR.out _ hbq.out).mono ?_
    rintro e wA ⟨rfl, hq⟩
    replace hbq := Lib.hid (hbq.out.tr hq)
    clear hq
    go_wp2_with fail
    with_reducible refine (CR.out _ hbq.out).mono ?_
    rintro e wB ⟨gA, rfl, hA, -, hq⟩
    replace hbq := Lib.hid (hbq.out.tr hq)
    clear hq
    replace hA := Lib.hid hA
    go_wp2_with fail
    with_reducible refine (CY.out _ hbq.out).mono ?_
    rintro e wC ⟨gB, rfl, hB, -, hq⟩
    replace hA := Lib.hid (blk_bl hA.out hq)
    replace hbq := Lib.hid (hbq.out.tr hq)
    clear hq
    replace hB := Lib.hid hB
    go_wp2_with fail
    with_reducible refine (CZ.out _ hbq.out).mono ?_
    rintro e wD ⟨gC, rfl, hC, -, hq⟩
    replace hA := Lib.hid (blk_bl hA.out hq)
    replace hB := Lib.hid (blk_bl hB.out hq)
    replace hbq := Lib.hid (hbq.out.tr hq)
    clear hq
    replace hC := Lib.hid hC
    have S1 := Lib.hid (same_any _ _ _ _ wD (cc_ints hA.out) (cc_ints hB.out) (hlR11.out _) (hlR11.out _))
    rw [decide_eq_true eY.out] at S1
    go_wp2_with fail
    with_reducible refine (S1.out).mono ?_
    rintro e wE ⟨rfl, hq⟩
    have hA2 := blk_bl hA.out hq
    have hC2 := blk_bl hC.out hq
    replace hbq := Lib.hid (hbq.out.tr hq)
    clear hq hA hB hC S1
    have S2 := Lib.hid (same_any _ _ _ _ wE (cc_ints hA2) (cc_ints hC2) (hlR11.out _) (hlR11.out _))
    rw [decide_eq_true eZ.out] at S2
    clear hA2 hC2
    go_wp2_with fail
    with_reducible refine (S2.out).mono ?_
    rintro e wF ⟨rfl, hq⟩
    replace hbq := Lib.hid (hbq.out.tr hq)
    clear hq S2
    go_wp2_with fail
    with_reducible refine (SY.out _ hbq.out).mono ?_
    rintro e wG ⟨rfl, hq⟩
    replace hbq := Lib.hid (hbq.out.tr hq)
    clear hq
    go_wp2_with fail
    with_reducible refine (SZ.out _ hbq.out).mono ?_
    rintro e wH ⟨rfl, hq⟩
    replace hbq := Lib.hid (hbq.out.tr hq)
    clear hq
    go_wp2_with fail
    with_reducible refine (LV.out _).mono ?_
    rintro e wI ⟨rfl, hq⟩
    go_wp2_with fail
    go_ret
    exact ⟨rfl, ((hb1.out.tr hb9.out).tr hbq.out).tr hq⟩
end Go.Proofs.Ytndlglkokbchbaa.splitRow
