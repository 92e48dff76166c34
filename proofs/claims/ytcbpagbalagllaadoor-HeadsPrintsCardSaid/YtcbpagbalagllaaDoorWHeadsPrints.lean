/-
  HeadsPrints is true for every input: whether two say the same, and what heads are in print, is the document's. No condition.
-/
import Derived.Test.YtcbpagbalagllaaDoorHdQ
import Derived.Test.YtcbpagbalagllaaDoorHdO
import Derived.Test.YtcbpagbalagllaaDoorHdH
namespace Go.Proofs.YtcbpagbalagllaaDoor.headsPrints
open Go.ChangeShapes Go.WideShapes Go.ChangeAt Go.RowKit
open Go.Proofs.YtcbpagbalagllaaDoor.heads
set_option linter.unusedVariables false
set_option linter.unusedSimpArgs false

theorem rev_step {α : Type} (A : List α) (d : α) (k : Nat) (h : k < A.length) : A.reverse.take (k + 1) = A.reverse.take k ++ [A.getD (A.length - 1 - k) d] := by
  rw [List.take_succ_eq_append_getElem (by simpa using h), List.getElem_reverse, List.getD_eq_getElem?_getD, List.getElem?_eq_getElem (by omega)]
  rfl
theorem same_rev {A : List Hd} (ha : (A.map Hd.n).Nodup) : sameF A A.reverse = true := by
  have hr : (A.reverse.map Hd.n).Nodup := by
    rw [List.map_reverse]
    exact (List.Perm.nodup_iff (List.reverse_perm _)).2 ha
  exact (same_iff ha hr).2 (List.reverse_perm A).symm
theorem same_sym {A B : List Hd} (ha : (A.map Hd.n).Nodup) (hb : (B.map Hd.n).Nodup) : sameF B A = sameF A B := by
  rw [Bool.eq_iff_iff, same_iff hb ha, same_iff ha hb]
  exact ⟨List.Perm.symm, List.Perm.symm⟩
set_option maxRecDepth 20000 in
set_option maxHeartbeats 8000000 in
theorem walk {w : World} (v0 : Value) (z0 : List Int) (hv0 : IntsAt w v0 z0) (hz0 : i64ok z0) (hm0 : z0.length ≤ maxLen) (v1 : Value) (z1 : List Int) (hv1 : IntsAt w v1 z1) (hz1 : i64ok z1) (hm1 : z1.length ≤ maxLen) :
    Calls Tryd.prog 6 #[v0, v1] w fun e w' => e = .returned (.bool true) ∧ Bl w w' := by
  obtain ⟨iu, hiu, zu0, zu1, zu2⟩ := info_parts infoH
  have HM := Lib.hid (heads_mk z0 v0 w hv0 hz0 hm0)
  have HN := Lib.hid (fun w' (hb : Bl w w') => heads_mk z1 v1 w' (Rd.below hv1 hb) hz1 hm1)
  have LV := Lib.hid lives_any
  have okA := ok_heads z0 (min z0.length 12)
  have okB := ok_heads z1 (min z1.length 12)
  obtain ⟨A, hA⟩ : ∃ z_, (headsF z0 (min z0.length 12)) = z_ := ⟨_, rfl⟩
  rw [hA] at HM okA
  obtain ⟨B, hB⟩ : ∃ z_, (headsF z1 (min z1.length 12)) = z_ := ⟨_, rfl⟩
  rw [hB] at okB
  simp only [hB] at HN
  clear hv0 hv1 hz0 hz1 hm0 hm1 hA hB
  go_enter Tryd.func6, Tryd.ntmps6
  go_wp2_with fail
  with_reducible refine (HM.out).mono ?_
  rintro e w1 ⟨va, rfl, hOA, hb1⟩
  have hHA := heads_own hOA
  replace hb1 := Lib.hid hb1
  replace hHA := Lib.hid hHA
  clear HM hOA
  go_wp2_with fail
  with_reducible refine (HN.out _ hb1.out).mono ?_
  rintro e w2 ⟨vb, rfl, hOB, hb2⟩
  have hHA2 := hHA.out.bl hb2
  have hHB := heads_own hOB
  have hb := hb1.out.tr hb2
  have lA := okA.len
  have lB := okB.len
  obtain ⟨aa, ag, ao, ac, rfl, har1, har2, ar⟩ := hHA2
  have hHA2 : HeadsAt w2 (.slice aa A.length ac) A := ⟨aa, ag, ao, ac, rfl, har1, har2, ar⟩
  have RA := Lib.hid (fun w' (hb : Bl w2 w') i hi => (ar.bl hb).c hB_len h0 i hi)
  have PA := Lib.hid (fun w' (hb : Bl w2 w') => print_any _ A w' (hHA2.bl hb) (by omega) (fun x hx => by have := may_fit (okA.may x hx); omega))
  have RP := Lib.hid (fun w' (hb : Bl w2 w') => rprint_any _ A w' (hHA2.bl hb) (by omega) (fun x hx => by have := may_fit (okA.may x hx); omega))
  have S1 := Lib.hid (fun w' (hb : Bl w2 w') => hsame_any _ A vb B w' (hHA2.bl hb) (hHB.bl hb) (by omega) (by omega))
  have S2 := Lib.hid (fun w' (hb : Bl w2 w') => rsame_any _ A vb B w' (hHA2.bl hb) (hHB.bl hb) (by omega) (by omega))
  have S3 := Lib.hid (fun w' (hb : Bl w2 w') => hsame_any vb B _ A w' (hHB.bl hb) (hHA2.bl hb) (by omega) (by omega))
  rw [same_sym okA.two okB.two] at S3
  have hAV := Lib.hid (fun w' (hb : Bl w2 w') => hHA2.bl hb)
  have hrv := same_rev okA.two
  have rA := fun k h => rev_step A h0 k h
  obtain ⟨Q, hQ⟩ : ∃ z_, (sameF A B) = z_ := ⟨_, rfl⟩
  simp only [hQ] at S1 S2 S3
  obtain ⟨P, hP⟩ : ∃ z_, (printF A) = z_ := ⟨_, rfl⟩
  simp only [hP] at PA RP
  have e1 : (P.toList == P.toList) = true := by simp
  have e2 : (Q == Q) = true := by simp
  clear hHA hHA2 hHB hb1 hb2 hOB HN hQ hP ar har1 har2
  replace hb := Lib.hid hb
  replace rA := Lib.hid rA
  replace hrv := Lib.hid hrv
  go_wp2_with fail
  go_loopw [7, 8] (fun o i wr => ∃ (k : Nat) (C : List Hd), k ≤ A.length ∧ i = I ((A.length : Int) - 1 - k) ∧ C = A.reverse.take k ∧ OwnB hB 2 25 wr w2.heap.size o C ∧ Bl w2 wr) (fun _ i _ => (intOf i + 1).toNat)
  case atStart => exact ⟨0, [], by omega, by simp, by simp, OwnB.nil _ _ _, Bl.rfl' _⟩
  case round =>
    obtain ⟨k, C, hk, rfl, hC, hown, hbr⟩ := hrel
    have hCl : C.length = k := by rw [hC, List.length_take, List.length_reverse]; omega
    by_cases hlt : k < A.length
    · obtain ⟨j, hj⟩ : ∃ j : Nat, A.length - 1 - k = j := ⟨_, rfl⟩
      have hji : (A.length : Int) - 1 - k = (j : Int) := by omega
      have hst := rA.out k hlt
      rw [hj, ← hC] at hst
      obtain ⟨ha, hcc⟩ := RA.out _ hbr j (by omega)
      subst ha
      have c0 := hcc 0 (by decide)
      have c1 := hcc 1 (by decide)
      simp only [List.getElem?_cons_succ, List.getElem?_cons_zero, Nat.add_zero, ← Nat.add_assoc] at c0 c1
      obtain ⟨x, hx⟩ : ∃ z_, (A.getD j h0) = z_ := ⟨_, rfl⟩
      rw [hx] at c0 c1 hst
      obtain ⟨n, u⟩ := x
      simp only at c0 c1
      have hjA : j < A.length := by omega
      have hd0 : decide ((j : Int) ≥ 0) = true := decide_eq_true (by omega)
      have wj : IntKind.i64.wrap ((j : Int) - 1) = (A.length : Int) - 1 - ((k + 1 : Nat) : Int) := by rw [IntKind.wrap_i64]; omega
      have hbs := hbr.size
      obtain ⟨ra, rg, rcap, rfl, hrg, hrc, hrc2, hRR⟩ := OwnB.row hown (by decide)
      replace hown : wr.ownsRow w2.heap.size 25 2 (.slice ra C.length rcap) C.length (flatB hB C) := hown
      have hC8 : C.length ≤ 8 := by omega
      rw [hji]
      clear hcc hx hC hRR hrg hj
      replace hst := Lib.hid hst
      replace hown := Lib.hid hown
      replace hbr := Lib.hid hbr
      replace hCl := Lib.hid hCl
      replace hji := Lib.hid hji
      go_wp2_with (at_builtin; refine wpList_append_row rfl _ _ 22 rfl w2.heap.size 25 iu (.agg #[S ByteArray.empty, S ByteArray.empty]) 2 32 Tryd.underlying22 hiu zu0 zu1 zu2 rfl (by decide) _ C.length (flatB hB C) rfl hown.out #[S n, S u] _ rfl (by intro u hu; simp at hu; rcases hu with rfl | rfl <;> rfl) 1 (by first | rfl | simp [Act.eval, Act.put]) (by omega) (by omega) (by omega) ?_)
      intro b' cap' w7 hown7 hgrow7
      have hb7 := hbr.out.grown hgrow7 (fun k hk => (hown.out.lt k hk).1)
      clear hgrow7
      replace hown7 := Lib.hid hown7
      replace hb7 := Lib.hid hb7
      go_wp2_with fail
      go_roundw
      case rel => exact ⟨k + 1, C ++ [⟨n, u⟩], by omega, by first | rfl | go_num, hst.out.symm, by unfold OwnB; rw [flatB_snoc, List.length_append]; exact hown7.out, hb7.out⟩
      case measure => have := hji.out; simp [intOf] <;> omega
    · obtain rfl : k = A.length := by omega
      have hCR : C = A.reverse := by rw [hC, List.take_of_length_le (by simp)]
      subst hCR
      have hwm : (A.length : Int) - 1 - (A.length : Nat) = -1 := by omega
      rw [hwm]
      have hHC := heads_own hown
      have hq2 := hbr
      have SC := Lib.hid (fun w' (hb : Bl wr w') => hsame_any _ A _ A.reverse w' (hAV.out w' (hbr.tr hb)) (hHC.bl hb) (by omega) (by simp; omega))
      rw [hrv.out] at SC
      have hbz := hb.out.tr hbr
      have hq7 := Bl.rfl' wr
      clear hown hHC hbr hC hCl
      replace hbz := Lib.hid hbz
      replace hq2 := Lib.hid hq2
      replace hq7 := Lib.hid hq7
      go_wp2_with fail
      with_reducible refine (PA.out _ hq2.out).mono ?_
      rintro e wa ⟨rfl, hn⟩
      replace hq7 := Lib.hid (hq7.out.tr hn)
      have hz1 := hbz.out.tr hn
      have hq21 := hq2.out.tr hn
      clear hbz hq2 hn
      have hbz := Lib.hid hz1; have hq2 := Lib.hid hq21
      clear hz1 hq21
      go_wp2_with fail
      with_reducible refine (RP.out _ hq2.out).mono ?_
      rintro e wb ⟨rfl, hn⟩
      replace hq7 := Lib.hid (hq7.out.tr hn)
      have hz1 := hbz.out.tr hn
      have hq21 := hq2.out.tr hn
      clear hbz hq2 hn
      have hbz := Lib.hid hz1; have hq2 := Lib.hid hq21
      clear hz1 hq21
      go_wp2_with fail
      with_reducible refine (S1.out _ hq2.out).mono ?_
      rintro e wc ⟨rfl, hn⟩
      replace hq7 := Lib.hid (hq7.out.tr hn)
      have hz1 := hbz.out.tr hn
      have hq21 := hq2.out.tr hn
      clear hbz hq2 hn
      have hbz := Lib.hid hz1; have hq2 := Lib.hid hq21
      clear hz1 hq21
      go_wp2_with fail
      with_reducible refine (S2.out _ hq2.out).mono ?_
      rintro e wd ⟨rfl, rfl⟩
      go_wp2_with fail
      with_reducible refine (SC.out _ hq7.out).mono ?_
      rintro e we ⟨rfl, hn⟩
      have hz1 := hbz.out.tr hn
      have hq21 := hq2.out.tr hn
      clear hbz hq2 hn
      have hbz := Lib.hid hz1; have hq2 := Lib.hid hq21
      clear hz1 hq21
      go_wp2_with fail
      with_reducible refine (S3.out _ hq2.out).mono ?_
      rintro e wf ⟨rfl, hn⟩
      have hz1 := hbz.out.tr hn
      have hq21 := hq2.out.tr hn
      clear hbz hq2 hn
      have hbz := Lib.hid hz1; have hq2 := Lib.hid hq21
      clear hz1 hq21
      go_wp2_with fail
      with_reducible refine (S1.out _ hq2.out).mono ?_
      rintro e wg ⟨rfl, hn⟩
      have hz1 := hbz.out.tr hn
      have hq21 := hq2.out.tr hn
      clear hbz hq2 hn
      have hbz := Lib.hid hz1; have hq2 := Lib.hid hq21
      clear hz1 hq21
      go_wp2_with fail
      with_reducible refine (LV.out _).mono ?_
      rintro e wl ⟨rfl, hn⟩
      go_wp2_with fail
      go_ret
      exact ⟨rfl, hbz.out.tr hn⟩
end Go.Proofs.YtcbpagbalagllaaDoor.headsPrints
