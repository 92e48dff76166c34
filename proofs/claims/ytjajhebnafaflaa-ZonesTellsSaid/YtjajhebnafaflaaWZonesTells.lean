/-
  ZonesTells is true for every input: how many stay, whether too few are well, and among whom one is chosen, is the document's. No condition.
-/
import Derived.Test.YtjajhebnafaflaaZnM
namespace Go.Proofs.Ytjajhebnafaflaa.zonesTells
open Go.ChangeShapes Go.WideShapes Go.ChangeAt Go.RowKit
open Go.Proofs.Ytjajhebnafaflaa.zones
set_option linter.unusedVariables false
set_option linter.unusedSimpArgs false

set_option maxHeartbeats 8000000 in
theorem walk {w : World} (v0 : Value) (z0 : List Int) (hv0 : IntsAt w v0 z0) (hz0 : i64ok z0) (hm0 : z0.length ≤ maxLen) (v1 : Value) (z1 : List Int) (hv1 : IntsAt w v1 z1) (hz1 : i64ok z1) (hm1 : z1.length ≤ maxLen) (a2 : Int) (l2 : -9223372036854775808 ≤ a2) (u2 : a2 ≤ 9223372036854775807) (a3 : Int) (l3 : -9223372036854775808 ≤ a3) (u3 : a3 ≤ 9223372036854775807) (a4 : Int) (l4 : -9223372036854775808 ≤ a4) (u4 : a4 ≤ 9223372036854775807) :
    Calls Try.prog 3 #[v0, v1, I a2, I a3, I a4] w fun e w' => e = .returned (.bool true) ∧ Bl w w' := by
  have EN := Lib.hid (ends_any z0 v0 w hv0 hz0 hm0)
  have WE := Lib.hid (fun w' (hb : Bl w w') => wellm_any z1 v1 w' (Rd.below hv1 hb) hz1 hm1)
  have LV := Lib.hid lives_any
  have A3 := Lib.hid (fun w => around_any a3 101 w l3 u3 (by omega) (by omega))
  have A4 := Lib.hid (fun w => around_any a4 101 w l4 u4 (by omega) (by omega))
  have p0 := around_lo a3 101 (by omega); have p1 := around_hi a3 101 (by omega)
  obtain ⟨p, hp⟩ : ∃ z_, (around a3 101) = z_ := ⟨_, rfl⟩
  rw [hp] at A3 p0 p1
  obtain ⟨d, hd⟩ : ∃ z_, (around a4 101) = z_ := ⟨_, rfl⟩
  rw [hd] at A4
  clear hp hd hv0 hv1 hz0 hz1 hm0 hm1 l2 u2 l3 u3 l4 u4
  go_enter Try.func3, Try.ntmps3
  go_wp2_with fail
  with_reducible refine (EN.out).mono ?_
  rintro e w1 ⟨v, R, rfl, hR, hO, hb1⟩
  replace hb1 := Lib.hid hb1
  replace hO := Lib.hid hO
  go_wp2_with fail
  with_reducible refine (WE.out _ hb1.out).mono ?_
  rintro e w2 ⟨u, Z, rfl, hZ, hU, hb2⟩
  have hI := ints_own hU
  have hE := (ends_own hO.out (by have := hR.len; omega)).bl hb2
  have hZm : Z.length ≤ maxLen := by have := hZ.1; unfold maxLen; omega
  have hb := hb1.out.tr hb2
  have hRb : ∀ x ∈ R, x.i < 4611686018427387904 := fun x hx => by have := hR.rng x hx; omega
  have HM := Lib.hid (fun z w' (hb : Bl w2 w') => home_any v R u Z z w' (hE.bl hb) (Rd.below hI hb) hZm)
  have AM := Lib.hid (fun z w' (hb : Bl w2 w') => among_ints v R u Z z p d w' (hE.bl hb) (Rd.below hI hb) hZm p0 (by omega))
  have PN := Lib.hid (fun w' (hb : Bl w2 w') => panic_any v R u Z p w' (hE.bl hb) (Rd.below hI hb) hZm p0 (by omega))
  have HM2 := Lib.hid (fun z w' (hb : Bl w2 w') => rhome_any v R u Z z w' (hE.bl hb) (Rd.below hI hb) hZm hR.two hRb)
  have AM2 := Lib.hid (fun z w' (hb : Bl w2 w') => ramong_any v R u Z z p d w' (hE.bl hb) (Rd.below hI hb) hZm hR.two hRb p0 (by omega))
  have PN2 := Lib.hid (fun w' (hb : Bl w2 w') => rpanic_any v R u Z p w' (hE.bl hb) (Rd.below hI hb) hZm hR.two hRb p0 (by omega))
  have SM := Lib.hid (fun z x y w' hx hy => same_any (amongL R Z z p d) (amongL R Z z p d) x y w' hx hy (by have := amongL_len R Z z p d; have := hR.len; unfold maxLen; omega) (by have := amongL_len R Z z p d; have := hR.len; unfold maxLen; omega))
  simp only [decide_true] at SM
  obtain ⟨pn, hpn⟩ : ∃ z_, (panicF R Z p) = z_ := ⟨_, rfl⟩
  simp only [hpn] at PN PN2
  clear hpn hE hI hU hb1 hb2 EN WE hO hRb
  replace hb := Lib.hid hb
  go_wp2_with fail
  with_reducible refine (A3.out _).mono ?_
  rintro e w' ⟨rfl, rfl⟩
  go_wp2_with fail
  with_reducible refine (A4.out _).mono ?_
  rintro e w' ⟨rfl, rfl⟩
  clear A3 A4
  go_wp2_with fail
  go_loopw [15] (fun i wr => ∃ k : Nat, k ≤ 5 ∧ i = I k ∧ Bl w2 wr) (fun i _ => 5 - (intOf i).toNat)
  case atStart => exact ⟨0, by omega, rfl, Bl.rfl' _⟩
  case round =>
    obtain ⟨k, hk, rfl, hq2⟩ := hrel
    have hbz := hb.out.tr hq2
    by_cases hlt : k < 5
    · have h1 := HM.out k
      have h2 := HM2.out k
      have h3 := AM.out k
      have h4 := AM2.out k
      have h5 := SM.out k
      obtain ⟨H, hH⟩ : ∃ z_, (homeF R Z k) = z_ := ⟨_, rfl⟩
      simp only [hH] at h1 h2
      obtain ⟨A, hA⟩ : ∃ z_, (amongL R Z k p d) = z_ := ⟨_, rfl⟩
      simp only [hA] at h3 h4 h5
      have e1 : (H != H) = false := by simp
      have wk : IntKind.i64.wrap ((k : Int) + 1) = ((k + 1 : Nat) : Int) := by rw [IntKind.wrap_i64]; omega
      clear hH hA
      replace hq2 := Lib.hid hq2
      replace hbz := Lib.hid hbz
      replace h1 := Lib.hid h1
      replace h2 := Lib.hid h2
      replace h3 := Lib.hid h3
      replace h4 := Lib.hid h4
      replace h5 := Lib.hid h5
      go_wp2_with fail
      with_reducible refine (h1.out _ hq2.out).mono ?_
      rintro e wa ⟨rfl, hn⟩
      have hz1 := hbz.out.tr hn
      have hq21 := hq2.out.tr hn
      clear hbz hq2 hn
      have hbz := Lib.hid hz1; have hq2 := Lib.hid hq21
      clear hz1 hq21
      go_wp2_with fail
      with_reducible refine (h2.out _ hq2.out).mono ?_
      rintro e wb ⟨rfl, hn⟩
      have hz1 := hbz.out.tr hn
      have hq21 := hq2.out.tr hn
      clear hbz hq2 hn
      have hbz := Lib.hid hz1; have hq2 := Lib.hid hq21
      clear hz1 hq21
      go_wp2_with fail
      with_reducible refine (h3.out _ hq2.out).mono ?_
      rintro e wc ⟨x, rfl, hx, hn⟩
      have hz1 := hbz.out.tr hn
      have hq21 := hq2.out.tr hn
      clear hbz hq2 hn
      have hbz := Lib.hid hz1; have hq2 := Lib.hid hq21
      clear hz1 hq21
      replace hx := Lib.hid hx
      go_wp2_with fail
      with_reducible refine (h4.out _ hq2.out).mono ?_
      rintro e wd ⟨y, rfl, hy, hn⟩
      have hx2 := Rd.below hx.out hn
      have hz1 := hbz.out.tr hn
      have hq21 := hq2.out.tr hn
      clear hbz hq2 hn
      have hbz := Lib.hid hz1; have hq2 := Lib.hid hq21
      clear hz1 hq21
      replace hx2 := Lib.hid hx2
      replace hy := Lib.hid hy
      go_wp2_with fail
      with_reducible refine (h5.out _ _ _ hx2.out hy.out).mono ?_
      rintro e we ⟨rfl, hn⟩
      have hz1 := hbz.out.tr hn
      have hq21 := hq2.out.tr hn
      clear hbz hq2 hn
      have hbz := Lib.hid hz1; have hq2 := Lib.hid hq21
      clear hz1 hq21
      go_wp2_with fail
      go_roundw
      case rel => exact ⟨k + 1, by omega, by first | rfl | go_num, hq2.out⟩
      case measure => simp [intOf] <;> omega
    · obtain rfl : k = 5 := by omega
      have h1 := HM.out a2
      have h2 := HM2.out a2
      obtain ⟨H, hH⟩ : ∃ z_, (homeF R Z a2) = z_ := ⟨_, rfl⟩
      simp only [hH] at h1 h2
      have e1 : (H == H) = true := by simp
      have e2 : (pn == pn) = true := by simp
      clear hH
      replace hq2 := Lib.hid hq2
      replace hbz := Lib.hid hbz
      replace h1 := Lib.hid h1
      replace h2 := Lib.hid h2
      go_wp2_with fail
      with_reducible refine (h1.out _ hq2.out).mono ?_
      rintro e wa ⟨rfl, hn⟩
      have hz1 := hbz.out.tr hn
      have hq21 := hq2.out.tr hn
      clear hbz hq2 hn
      have hbz := Lib.hid hz1; have hq2 := Lib.hid hq21
      clear hz1 hq21
      go_wp2_with fail
      with_reducible refine (h2.out _ hq2.out).mono ?_
      rintro e wb ⟨rfl, hn⟩
      have hz1 := hbz.out.tr hn
      have hq21 := hq2.out.tr hn
      clear hbz hq2 hn
      have hbz := Lib.hid hz1; have hq2 := Lib.hid hq21
      clear hz1 hq21
      go_wp2_with fail
      with_reducible refine (PN.out _ hq2.out).mono ?_
      rintro e wc ⟨rfl, hn⟩
      have hz1 := hbz.out.tr hn
      have hq21 := hq2.out.tr hn
      clear hbz hq2 hn
      have hbz := Lib.hid hz1; have hq2 := Lib.hid hq21
      clear hz1 hq21
      go_wp2_with fail
      with_reducible refine (PN2.out _ hq2.out).mono ?_
      rintro e wd ⟨rfl, hn⟩
      have hz1 := hbz.out.tr hn
      have hq21 := hq2.out.tr hn
      clear hbz hq2 hn
      have hbz := Lib.hid hz1; have hq2 := Lib.hid hq21
      clear hz1 hq21
      go_wp2_with fail
      with_reducible refine (LV.out _).mono ?_
      rintro e we ⟨rfl, hn⟩
      go_wp2_with fail
      go_ret
      exact ⟨rfl, hbz.out.tr hn⟩
end Go.Proofs.Ytjajhebnafaflaa.zonesTells
