/-
  HeadsOne is true for every input: heads of one print are one, and say the same of each name; whose prints differ by the row alone are Same. No condition.
-/
import Derived.Test.YtcbpagbalagllaaDoorHdP
import Derived.Test.YtcbpagbalagllaaDoorHdO
import Derived.Test.YtcbpagbalagllaaDoorHdH
import Derived.Test.YtcbpagbalagllaaDoorHdI
namespace Go.Proofs.YtcbpagbalagllaaDoor.headsOne
open Go.ChangeShapes Go.WideShapes Go.ChangeAt Go.RowKit
open Go.Proofs.YtcbpagbalagllaaDoor.heads
set_option linter.unusedVariables false
set_option linter.unusedSimpArgs false

set_option maxHeartbeats 8000000 in
theorem walk {w : World} (v0 : Value) (z0 : List Int) (hv0 : IntsAt w v0 z0) (hz0 : i64ok z0) (hm0 : z0.length ≤ maxLen) (v1 : Value) (z1 : List Int) (hv1 : IntsAt w v1 z1) (hz1 : i64ok z1) (hm1 : z1.length ≤ maxLen) (a3 : Int) (l3 : -9223372036854775808 ≤ a3) (u3 : a3 ≤ 9223372036854775807) :
    Calls Tryd.prog 9 #[v0, v1, I a3] w fun e w' => e = .returned (.bool true) ∧ Bl w w' := by
  have HM := Lib.hid (heads_mk z0 v0 w hv0 hz0 hm0)
  have HN := Lib.hid (fun w' (hb : Bl w w') => heads_mk z1 v1 w' (Rd.below hv1 hb) hz1 hm1)
  have LV := Lib.hid lives_any
  have O3 := Lib.hid (fun w => one_any a3 w l3 u3)
  have okA := ok_heads z0 (min z0.length 12)
  have okB := ok_heads z1 (min z1.length 12)
  obtain ⟨o, ho⟩ : ∃ z_, (oneF a3) = z_ := ⟨_, rfl⟩
  rw [ho] at O3
  obtain ⟨on, ou⟩ := o
  obtain ⟨A, hA⟩ : ∃ z_, (headsF z0 (min z0.length 12)) = z_ := ⟨_, rfl⟩
  rw [hA] at HM okA
  obtain ⟨B, hB⟩ : ∃ z_, (headsF z1 (min z1.length 12)) = z_ := ⟨_, rfl⟩
  rw [hB] at okB
  simp only [hB] at HN
  clear hv0 hv1 hz0 hz1 hm0 hm1 l3 u3 ho hA hB
  go_enter Tryd.func9, Tryd.ntmps9
  go_wp2_with fail
  with_reducible refine (HM.out).mono ?_
  rintro e w1 ⟨va, rfl, hOA, hb1⟩
  have hHA := heads_own hOA
  replace hb1 := Lib.hid hb1
  replace hHA := Lib.hid hHA
  clear HM hOA
  go_wp2_with fail
  with_reducible refine (HN.out _ hb1.out).mono ?_
  rintro e w2 ⟨vb, rfl, hOB, hb2⟩
  have hHA2 := hHA.out.bl hb2
  have hHB := heads_own hOB
  have hbz := hb1.out.tr hb2
  have hq2 := Bl.rfl' w2
  have lA := okA.len
  have lB := okB.len
  have PA := Lib.hid (fun w' (hb : Bl w2 w') => print_any va A w' (hHA2.bl hb) (by omega) (fun x hx => by have := may_fit (okA.may x hx); omega))
  have PB := Lib.hid (fun w' (hb : Bl w2 w') => print_any vb B w' (hHB.bl hb) (by omega) (fun x hx => by have := may_fit (okB.may x hx); omega))
  have RW := Lib.hid (fun w' (hb : Bl w2 w') => row_any va A vb B w' (hHA2.bl hb) (hHB.bl hb) (by omega) (by omega))
  have SM := Lib.hid (fun w' (hb : Bl w2 w') => hsame_any va A vb B w' (hHA2.bl hb) (hHB.bl hb) (by omega) (by omega))
  have GA := Lib.hid (fun w' (hb : Bl w2 w') => get_any va A on w' (hHA2.bl hb) (by omega))
  have GB := Lib.hid (fun w' (hb : Bl w2 w') => get_any vb B on w' (hHB.bl hb) (by omega))
  have hpi : ((printF A).toList == (printF B).toList) = decide (A = B) := by
    rw [txt_eq]
    exact decide_eq_decide.2 ⟨fun h => print_inj okA.may okB.may h, fun h => by rw [h]⟩
  have hsi := same_iff okA.two okB.two
  have hgv := fun hp => getV_perm hp okA.two okB.two on
  have hps := fun hp => print_perm (A := A) (B := B) hp
  obtain ⟨D, hD⟩ : ∃ z_, (decide (A = B)) = z_ := ⟨_, rfl⟩
  rw [hD] at hpi
  simp only [hD] at RW
  obtain ⟨P, hP⟩ : ∃ z_, (printF A) = z_ := ⟨_, rfl⟩
  rw [hP] at hpi
  simp only [hP] at PA hps
  obtain ⟨Q, hQ⟩ : ∃ z_, (printF B) = z_ := ⟨_, rfl⟩
  rw [hQ] at hpi
  simp only [hQ] at PB hps
  have hDD : (D != D) = false := by simp
  clear hHA2 hHB hb1 hb2 hOB HN hHA hD hP hQ
  replace hbz := Lib.hid hbz
  replace hq2 := Lib.hid hq2
  cases hs : sameF A B with
  | false =>
    simp only [hs] at SM
    clear hs hsi hgv hps
    go_wp2_with fail
    with_reducible refine (PA.out _ hq2.out).mono ?_
    rintro e wa ⟨rfl, hn⟩
    have hz1 := hbz.out.tr hn
    have hq21 := hq2.out.tr hn
    clear hbz hq2 hn
    have hbz := Lib.hid hz1; have hq2 := Lib.hid hq21
    clear hz1 hq21
    go_wp2_with fail
    with_reducible refine (PB.out _ hq2.out).mono ?_
    rintro e wb ⟨rfl, hn⟩
    have hz1 := hbz.out.tr hn
    have hq21 := hq2.out.tr hn
    clear hbz hq2 hn
    have hbz := Lib.hid hz1; have hq2 := Lib.hid hq21
    clear hz1 hq21
    go_wp2_with fail
    with_reducible refine (RW.out _ hq2.out).mono ?_
    rintro e wc ⟨rfl, hn⟩
    have hz1 := hbz.out.tr hn
    have hq21 := hq2.out.tr hn
    clear hbz hq2 hn
    have hbz := Lib.hid hz1; have hq2 := Lib.hid hq21
    clear hz1 hq21
    go_wp2_with fail
    with_reducible refine (SM.out _ hq2.out).mono ?_
    rintro e wd ⟨rfl, hn⟩
    have hz1 := hbz.out.tr hn
    have hq21 := hq2.out.tr hn
    clear hbz hq2 hn
    have hbz := Lib.hid hz1; have hq2 := Lib.hid hq21
    clear hz1 hq21
    go_wp2_with fail
    with_reducible refine (LV.out _).mono ?_
    rintro e wl ⟨rfl, hn⟩
    go_wp2_with fail
    go_ret
    exact ⟨rfl, hbz.out.tr hn⟩
  | true =>
    have hp := hsi.1 hs
    simp only [hs] at SM
    have hg := hgv hp
    have hz := hps hp
    have hzb : ((P.size : Int) == (Q.size : Int)) = true := by rw [hz]; simp
    clear hs hsi hgv hps hp hz
    rcases getV_is A on with ⟨-, hv⟩ | ⟨z, -, hv⟩
    · rw [hv] at hg
      simp only [hv] at GA
      simp only [← hg] at GB
      clear hv hg
      go_wp2_with fail
      with_reducible refine (PA.out _ hq2.out).mono ?_
      rintro e wa ⟨rfl, hn⟩
      have hz1 := hbz.out.tr hn
      have hq21 := hq2.out.tr hn
      clear hbz hq2 hn
      have hbz := Lib.hid hz1; have hq2 := Lib.hid hq21
      clear hz1 hq21
      go_wp2_with fail
      with_reducible refine (PB.out _ hq2.out).mono ?_
      rintro e wb ⟨rfl, hn⟩
      have hz1 := hbz.out.tr hn
      have hq21 := hq2.out.tr hn
      clear hbz hq2 hn
      have hbz := Lib.hid hz1; have hq2 := Lib.hid hq21
      clear hz1 hq21
      go_wp2_with fail
      with_reducible refine (RW.out _ hq2.out).mono ?_
      rintro e wc ⟨rfl, hn⟩
      have hz1 := hbz.out.tr hn
      have hq21 := hq2.out.tr hn
      clear hbz hq2 hn
      have hbz := Lib.hid hz1; have hq2 := Lib.hid hq21
      clear hz1 hq21
      go_wp2_with fail
      with_reducible refine (SM.out _ hq2.out).mono ?_
      rintro e wd ⟨rfl, hn⟩
      have hz1 := hbz.out.tr hn
      have hq21 := hq2.out.tr hn
      clear hbz hq2 hn
      have hbz := Lib.hid hz1; have hq2 := Lib.hid hq21
      clear hz1 hq21
      go_wp2_with fail
      with_reducible refine (O3.out _).mono ?_
      rintro e we ⟨rfl, hn⟩
      have hz1 := hbz.out.tr hn
      have hq21 := hq2.out.tr hn
      clear hbz hq2 hn
      have hbz := Lib.hid hz1; have hq2 := Lib.hid hq21
      clear hz1 hq21
      have hff := field_n on ou
      go_wp2_with fail
      with_reducible refine (GA.out _ hq2.out).mono ?_
      rintro e wf ⟨rfl, hn⟩
      have hz1 := hbz.out.tr hn
      have hq21 := hq2.out.tr hn
      clear hbz hq2 hn
      have hbz := Lib.hid hz1; have hq2 := Lib.hid hq21
      clear hz1 hq21
      go_wp2_with fail
      with_reducible refine (O3.out _).mono ?_
      rintro e wg ⟨rfl, hn⟩
      have hz1 := hbz.out.tr hn
      have hq21 := hq2.out.tr hn
      clear hbz hq2 hn
      have hbz := Lib.hid hz1; have hq2 := Lib.hid hq21
      clear hz1 hq21
      go_wp2_with fail
      with_reducible refine (GB.out _ hq2.out).mono ?_
      rintro e wh ⟨rfl, hn⟩
      have hz1 := hbz.out.tr hn
      have hq21 := hq2.out.tr hn
      clear hbz hq2 hn
      have hbz := Lib.hid hz1; have hq2 := Lib.hid hq21
      clear hz1 hq21
      go_wp2_with fail
      with_reducible refine (PA.out _ hq2.out).mono ?_
      rintro e wi ⟨rfl, hn⟩
      have hz1 := hbz.out.tr hn
      have hq21 := hq2.out.tr hn
      clear hbz hq2 hn
      have hbz := Lib.hid hz1; have hq2 := Lib.hid hq21
      clear hz1 hq21
      go_wp2_with fail
      with_reducible refine (PB.out _ hq2.out).mono ?_
      rintro e wj ⟨rfl, hn⟩
      have hz1 := hbz.out.tr hn
      have hq21 := hq2.out.tr hn
      clear hbz hq2 hn
      have hbz := Lib.hid hz1; have hq2 := Lib.hid hq21
      clear hz1 hq21
      go_wp2_with fail
      with_reducible refine (LV.out _).mono ?_
      rintro e wl ⟨rfl, hn⟩
      go_wp2_with fail
      go_ret
      exact ⟨rfl, hbz.out.tr hn⟩
    · rw [hv] at hg
      simp only [hv] at GA
      simp only [← hg] at GB
      obtain ⟨zn, zv⟩ := z
      clear hv hg
      go_wp2_with fail
      with_reducible refine (PA.out _ hq2.out).mono ?_
      rintro e wa ⟨rfl, hn⟩
      have hz1 := hbz.out.tr hn
      have hq21 := hq2.out.tr hn
      clear hbz hq2 hn
      have hbz := Lib.hid hz1; have hq2 := Lib.hid hq21
      clear hz1 hq21
      go_wp2_with fail
      with_reducible refine (PB.out _ hq2.out).mono ?_
      rintro e wb ⟨rfl, hn⟩
      have hz1 := hbz.out.tr hn
      have hq21 := hq2.out.tr hn
      clear hbz hq2 hn
      have hbz := Lib.hid hz1; have hq2 := Lib.hid hq21
      clear hz1 hq21
      go_wp2_with fail
      with_reducible refine (RW.out _ hq2.out).mono ?_
      rintro e wc ⟨rfl, hn⟩
      have hz1 := hbz.out.tr hn
      have hq21 := hq2.out.tr hn
      clear hbz hq2 hn
      have hbz := Lib.hid hz1; have hq2 := Lib.hid hq21
      clear hz1 hq21
      go_wp2_with fail
      with_reducible refine (SM.out _ hq2.out).mono ?_
      rintro e wd ⟨rfl, hn⟩
      have hz1 := hbz.out.tr hn
      have hq21 := hq2.out.tr hn
      clear hbz hq2 hn
      have hbz := Lib.hid hz1; have hq2 := Lib.hid hq21
      clear hz1 hq21
      go_wp2_with fail
      with_reducible refine (O3.out _).mono ?_
      rintro e we ⟨rfl, hn⟩
      have hz1 := hbz.out.tr hn
      have hq21 := hq2.out.tr hn
      clear hbz hq2 hn
      have hbz := Lib.hid hz1; have hq2 := Lib.hid hq21
      clear hz1 hq21
      have hff := field_n on ou
      go_wp2_with fail
      with_reducible refine (GA.out _ hq2.out).mono ?_
      rintro e wf ⟨rfl, hn⟩
      have hz1 := hbz.out.tr hn
      have hq21 := hq2.out.tr hn
      clear hbz hq2 hn
      have hbz := Lib.hid hz1; have hq2 := Lib.hid hq21
      clear hz1 hq21
      go_wp2_with fail
      with_reducible refine (O3.out _).mono ?_
      rintro e wg ⟨rfl, hn⟩
      have hz1 := hbz.out.tr hn
      have hq21 := hq2.out.tr hn
      clear hbz hq2 hn
      have hbz := Lib.hid hz1; have hq2 := Lib.hid hq21
      clear hz1 hq21
      go_wp2_with fail
      with_reducible refine (GB.out _ hq2.out).mono ?_
      rintro e wh ⟨rfl, hn⟩
      have hz1 := hbz.out.tr hn
      have hq21 := hq2.out.tr hn
      clear hbz hq2 hn
      have hbz := Lib.hid hz1; have hq2 := Lib.hid hq21
      clear hz1 hq21
      go_wp2_with fail
      with_reducible refine (PA.out _ hq2.out).mono ?_
      rintro e wi ⟨rfl, hn⟩
      have hz1 := hbz.out.tr hn
      have hq21 := hq2.out.tr hn
      clear hbz hq2 hn
      have hbz := Lib.hid hz1; have hq2 := Lib.hid hq21
      clear hz1 hq21
      go_wp2_with fail
      with_reducible refine (PB.out _ hq2.out).mono ?_
      rintro e wj ⟨rfl, hn⟩
      have hz1 := hbz.out.tr hn
      have hq21 := hq2.out.tr hn
      clear hbz hq2 hn
      have hbz := Lib.hid hz1; have hq2 := Lib.hid hq21
      clear hz1 hq21
      go_wp2_with fail
      with_reducible refine (LV.out _).mono ?_
      rintro e wl ⟨rfl, hn⟩
      go_wp2_with fail
      go_ret
      exact ⟨rfl, hbz.out.tr hn⟩
end Go.Proofs.YtcbpagbalagllaaDoor.headsOne
