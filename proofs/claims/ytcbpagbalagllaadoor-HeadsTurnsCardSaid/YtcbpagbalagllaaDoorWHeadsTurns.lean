/-
  HeadsTurns is true for every input: what is got, set and dropped is the document's. No condition.
-/
import Derived.Test.YtcbpagbalagllaaDoorHdO
import Derived.Test.YtcbpagbalagllaaDoorHdH
import Derived.Test.YtcbpagbalagllaaDoorHdI
namespace Go.Proofs.YtcbpagbalagllaaDoor.headsTurns
open Go.ChangeShapes Go.WideShapes Go.ChangeAt Go.RowKit
open Go.Proofs.YtcbpagbalagllaaDoor.heads
set_option linter.unusedVariables false
set_option linter.unusedSimpArgs false

set_option maxHeartbeats 8000000 in
theorem walk {w : World} (v0 : Value) (z0 : List Int) (hv0 : IntsAt w v0 z0) (hz0 : i64ok z0) (hm0 : z0.length ≤ maxLen) (v1 : Value) (z1 : List Int) (hv1 : IntsAt w v1 z1) (hz1 : i64ok z1) (hm1 : z1.length ≤ maxLen) (v2 : Value) (z2 : List Int) (hv2 : IntsAt w v2 z2) (hz2 : i64ok z2) (hm2 : z2.length ≤ maxLen) (a3 : Int) (l3 : -9223372036854775808 ≤ a3) (u3 : a3 ≤ 9223372036854775807) :
    Calls Tryd.prog 5 #[v0, v1, v2, I a3] w fun e w' => e = .returned (.bool true) ∧ Bl w w' := by
  have HM := Lib.hid (heads_mk z0 v0 w hv0 hz0 hm0)
  have SM := Lib.hid (fun w' (hb : Bl w w') => some_mk z1 v1 w' (Rd.below hv1 hb) hz1 hm1)
  have NM := Lib.hid (fun w' (hb : Bl w w') => names_mk z2 v2 w' (Rd.below hv2 hb) hz2 hm2)
  have LV := Lib.hid lives_any
  have O3 := Lib.hid (fun w => one_any a3 w l3 u3)
  have okA := ok_heads z0 (min z0.length 12)
  have lB : (someF z1 (min z1.length 12)).length ≤ 12 := by rw [someF_len]; omega
  have mB := some_may z1 (min z1.length 12)
  have lC : (namesF z2 (min z2.length 6)).length ≤ 6 := by rw [namesF_len]; omega
  obtain ⟨o, ho⟩ : ∃ z_, (oneF a3) = z_ := ⟨_, rfl⟩
  rw [ho] at O3
  obtain ⟨on, ou⟩ := o
  obtain ⟨A, hA⟩ : ∃ z_, (headsF z0 (min z0.length 12)) = z_ := ⟨_, rfl⟩
  rw [hA] at HM okA
  obtain ⟨B, hB⟩ : ∃ z_, (someF z1 (min z1.length 12)) = z_ := ⟨_, rfl⟩
  rw [hB] at lB mB
  simp only [hB] at SM
  obtain ⟨C, hC⟩ : ∃ z_, (namesF z2 (min z2.length 6)) = z_ := ⟨_, rfl⟩
  rw [hC] at lC
  simp only [hC] at NM
  clear hv0 hv1 hv2 hz0 hz1 hz2 hm0 hm1 hm2 l3 u3 ho hA hB hC
  go_enter Tryd.func5, Tryd.ntmps5
  go_wp2_with fail
  with_reducible refine (HM.out).mono ?_
  rintro e w1 ⟨va, rfl, hOA, hb1⟩
  have hHA := heads_own hOA
  replace hb1 := Lib.hid hb1
  replace hHA := Lib.hid hHA
  clear HM hOA
  go_wp2_with fail
  with_reducible refine (SM.out _ hb1.out).mono ?_
  rintro e w2 ⟨vb, rfl, hOB, hb2⟩
  have hHA2 := hHA.out.bl hb2
  have hHB := heads_own hOB
  have hb12 := hb1.out.tr hb2
  clear hb1 hb2 hOB SM hHA
  replace hHA2 := Lib.hid hHA2
  replace hHB := Lib.hid hHB
  replace hb12 := Lib.hid hb12
  go_wp2_with fail
  with_reducible refine (NM.out _ hb12.out).mono ?_
  rintro e w3 ⟨vc, rfl, hOC, hb3⟩
  have hHA := hHA2.out.bl hb3
  have hHB3 := hHB.out.bl hb3
  have hTC := texts_own hOC
  have hbz := hb12.out.tr hb3
  have hq2 := Bl.rfl' w3
  have lA := okA.len
  have hSS := set_same mB okA
  have lS := hSS.2.len
  have lD := dropF_len A C
  have G1 := Lib.hid (fun w' (hb : Bl w3 w') => get_any va A on w' (hHA.bl hb) (by omega))
  have G2 := Lib.hid (fun w' (hb : Bl w3 w') => rget_any va A on w' (hHA.bl hb) (by omega))
  have ST := Lib.hid (fun w' (hb : Bl w3 w') => set_any va A vb B w' (hHA.bl hb) (hHB3.bl hb) (by omega) (by omega))
  have RS := Lib.hid (fun w' (hb : Bl w3 w') => rset_any va A vb B w' (hHA.bl hb) (hHB3.bl hb) (by omega) (by omega))
  have DP := Lib.hid (fun w' (hb : Bl w3 w') => drop_any va A vc C w' (hHA.bl hb) (hTC.bl hb) (by omega) (by omega))
  have RD := Lib.hid (fun w' (hb : Bl w3 w') => rdrop_any va A vc C w' (hHA.bl hb) (hTC.bl hb) (by omega) (by omega))
  rw [hSS.1] at ST
  have gv := getV_is A on
  obtain ⟨gV, hgV⟩ : ∃ z_, (getV A on) = z_ := ⟨_, rfl⟩
  simp only [hgV] at G1 G2
  rw [hgV] at gv
  clear hHA hHB3 hTC hb3 hb12 hHA2 hHB hOC NM hSS hgV okA mB
  replace hbz := Lib.hid hbz
  replace hq2 := Lib.hid hq2
  rcases gv with ⟨-, hg⟩ | ⟨z, -, hg⟩
  · subst hg
    go_wp2_with fail
    with_reducible refine (O3.out _).mono ?_
    rintro e wa ⟨rfl, hn⟩
    have hff := field_n on ou
    have hz1 := hbz.out.tr hn
    have hq21 := hq2.out.tr hn
    clear hbz hq2 hn
    have hbz := Lib.hid hz1; have hq2 := Lib.hid hq21
    clear hz1 hq21
    go_wp2_with fail
    with_reducible refine (G1.out _ hq2.out).mono ?_
    rintro e wb ⟨rfl, hn⟩
    have hz1 := hbz.out.tr hn
    have hq21 := hq2.out.tr hn
    clear hbz hq2 hn
    have hbz := Lib.hid hz1; have hq2 := Lib.hid hq21
    clear hz1 hq21
    go_wp2_with fail
    with_reducible refine (O3.out _).mono ?_
    rintro e wc ⟨rfl, hn⟩
    have hz1 := hbz.out.tr hn
    have hq21 := hq2.out.tr hn
    clear hbz hq2 hn
    have hbz := Lib.hid hz1; have hq2 := Lib.hid hq21
    clear hz1 hq21
    go_wp2_with fail
    with_reducible refine (G2.out _ hq2.out).mono ?_
    rintro e wd ⟨rfl, rfl⟩
    go_wp2_with fail
    with_reducible refine (ST.out _ hq2.out).mono ?_
    rintro e we ⟨x, rfl, hx, hn⟩
    have hz1 := hbz.out.tr hn
    have hq21 := hq2.out.tr hn
    clear hbz hq2 hn
    have hbz := Lib.hid hz1; have hq2 := Lib.hid hq21
    clear hz1 hq21
    have hX := heads_own hx
    clear hx
    replace hX := Lib.hid hX
    go_wp2_with fail
    with_reducible refine (RS.out _ hq2.out).mono ?_
    rintro e wf ⟨y, rfl, hy, hn⟩
    have hX2 := hX.out.bl hn
    have hY := heads_own hy
    have hz1 := hbz.out.tr hn
    have hq21 := hq2.out.tr hn
    clear hbz hq2 hn
    have hbz := Lib.hid hz1; have hq2 := Lib.hid hq21
    clear hz1 hq21
    clear hy hX
    have RW := row_any _ _ _ _ wf hX2 hY (by omega) (by omega)
    rw [decide_eq_true rfl] at RW
    clear hX2 hY
    replace RW := Lib.hid RW
    go_wp2_with fail
    with_reducible refine (RW.out).mono ?_
    rintro e wg ⟨rfl, hn⟩
    have hz1 := hbz.out.tr hn
    have hq21 := hq2.out.tr hn
    clear hbz hq2 hn
    have hbz := Lib.hid hz1; have hq2 := Lib.hid hq21
    clear hz1 hq21
    clear RW
    go_wp2_with fail
    with_reducible refine (DP.out _ hq2.out).mono ?_
    rintro e wh ⟨x2, rfl, hx, hn⟩
    have hz1 := hbz.out.tr hn
    have hq21 := hq2.out.tr hn
    clear hbz hq2 hn
    have hbz := Lib.hid hz1; have hq2 := Lib.hid hq21
    clear hz1 hq21
    have hX := heads_own hx
    clear hx
    replace hX := Lib.hid hX
    go_wp2_with fail
    with_reducible refine (RD.out _ hq2.out).mono ?_
    rintro e wi ⟨y2, rfl, hy, hn⟩
    have hX2 := hX.out.bl hn
    have hY := heads_own hy
    have hz1 := hbz.out.tr hn
    have hq21 := hq2.out.tr hn
    clear hbz hq2 hn
    have hbz := Lib.hid hz1; have hq2 := Lib.hid hq21
    clear hz1 hq21
    clear hy hX
    have RW := row_any _ _ _ _ wi hX2 hY (by omega) (by omega)
    rw [decide_eq_true rfl] at RW
    clear hX2 hY
    replace RW := Lib.hid RW
    go_wp2_with fail
    with_reducible refine (RW.out).mono ?_
    rintro e wj ⟨rfl, hn⟩
    have hz1 := hbz.out.tr hn
    have hq21 := hq2.out.tr hn
    clear hbz hq2 hn
    have hbz := Lib.hid hz1; have hq2 := Lib.hid hq21
    clear hz1 hq21
    go_wp2_with fail
    with_reducible refine (LV.out _).mono ?_
    rintro e wk ⟨rfl, hn⟩
    go_wp2_with fail
    go_ret
    exact ⟨rfl, hbz.out.tr hn⟩
  · subst hg
    obtain ⟨zn, zv⟩ := z
    go_wp2_with fail
    with_reducible refine (O3.out _).mono ?_
    rintro e wa ⟨rfl, hn⟩
    have hff := field_n on ou
    have hz1 := hbz.out.tr hn
    have hq21 := hq2.out.tr hn
    clear hbz hq2 hn
    have hbz := Lib.hid hz1; have hq2 := Lib.hid hq21
    clear hz1 hq21
    go_wp2_with fail
    with_reducible refine (G1.out _ hq2.out).mono ?_
    rintro e wb ⟨rfl, hn⟩
    have hz1 := hbz.out.tr hn
    have hq21 := hq2.out.tr hn
    clear hbz hq2 hn
    have hbz := Lib.hid hz1; have hq2 := Lib.hid hq21
    clear hz1 hq21
    go_wp2_with fail
    with_reducible refine (O3.out _).mono ?_
    rintro e wc ⟨rfl, hn⟩
    have hz1 := hbz.out.tr hn
    have hq21 := hq2.out.tr hn
    clear hbz hq2 hn
    have hbz := Lib.hid hz1; have hq2 := Lib.hid hq21
    clear hz1 hq21
    go_wp2_with fail
    with_reducible refine (G2.out _ hq2.out).mono ?_
    rintro e wd ⟨rfl, rfl⟩
    go_wp2_with fail
    with_reducible refine (ST.out _ hq2.out).mono ?_
    rintro e we ⟨x, rfl, hx, hn⟩
    have hz1 := hbz.out.tr hn
    have hq21 := hq2.out.tr hn
    clear hbz hq2 hn
    have hbz := Lib.hid hz1; have hq2 := Lib.hid hq21
    clear hz1 hq21
    have hX := heads_own hx
    clear hx
    replace hX := Lib.hid hX
    go_wp2_with fail
    with_reducible refine (RS.out _ hq2.out).mono ?_
    rintro e wf ⟨y, rfl, hy, hn⟩
    have hX2 := hX.out.bl hn
    have hY := heads_own hy
    have hz1 := hbz.out.tr hn
    have hq21 := hq2.out.tr hn
    clear hbz hq2 hn
    have hbz := Lib.hid hz1; have hq2 := Lib.hid hq21
    clear hz1 hq21
    clear hy hX
    have RW := row_any _ _ _ _ wf hX2 hY (by omega) (by omega)
    rw [decide_eq_true rfl] at RW
    clear hX2 hY
    replace RW := Lib.hid RW
    go_wp2_with fail
    with_reducible refine (RW.out).mono ?_
    rintro e wg ⟨rfl, hn⟩
    have hz1 := hbz.out.tr hn
    have hq21 := hq2.out.tr hn
    clear hbz hq2 hn
    have hbz := Lib.hid hz1; have hq2 := Lib.hid hq21
    clear hz1 hq21
    clear RW
    go_wp2_with fail
    with_reducible refine (DP.out _ hq2.out).mono ?_
    rintro e wh ⟨x2, rfl, hx, hn⟩
    have hz1 := hbz.out.tr hn
    have hq21 := hq2.out.tr hn
    clear hbz hq2 hn
    have hbz := Lib.hid hz1; have hq2 := Lib.hid hq21
    clear hz1 hq21
    have hX := heads_own hx
    clear hx
    replace hX := Lib.hid hX
    go_wp2_with fail
    with_reducible refine (RD.out _ hq2.out).mono ?_
    rintro e wi ⟨y2, rfl, hy, hn⟩
    have hX2 := hX.out.bl hn
    have hY := heads_own hy
    have hz1 := hbz.out.tr hn
    have hq21 := hq2.out.tr hn
    clear hbz hq2 hn
    have hbz := Lib.hid hz1; have hq2 := Lib.hid hq21
    clear hz1 hq21
    clear hy hX
    have RW := row_any _ _ _ _ wi hX2 hY (by omega) (by omega)
    rw [decide_eq_true rfl] at RW
    clear hX2 hY
    replace RW := Lib.hid RW
    go_wp2_with fail
    with_reducible refine (RW.out).mono ?_
    rintro e wj ⟨rfl, hn⟩
    have hz1 := hbz.out.tr hn
    have hq21 := hq2.out.tr hn
    clear hbz hq2 hn
    have hbz := Lib.hid hz1; have hq2 := Lib.hid hq21
    clear hz1 hq21
    go_wp2_with fail
    with_reducible refine (LV.out _).mono ?_
    rintro e wk ⟨rfl, hn⟩
    go_wp2_with fail
    go_ret
    exact ⟨rfl, hbz.out.tr hn⟩
end Go.Proofs.YtcbpagbalagllaaDoor.headsTurns
