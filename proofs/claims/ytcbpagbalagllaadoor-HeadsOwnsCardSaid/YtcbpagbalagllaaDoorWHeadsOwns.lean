/-
  HeadsOwns is true for every input: what was handed in is not changed, and what is answered may be. No condition.
-/
import Derived.Test.YtcbpagbalagllaaDoorHdO
import Derived.Test.YtcbpagbalagllaaDoorHdH
namespace Go.Proofs.YtcbpagbalagllaaDoor.headsOwns
open Go.ChangeShapes Go.WideShapes Go.ChangeAt Go.RowKit
open Go.Proofs.YtcbpagbalagllaaDoor.heads
set_option linter.unusedVariables false
set_option linter.unusedSimpArgs false

theorem lit1 (w : World) (x : Hd) : HeadsAt (w.alloc (oH x)) (.slice (some ⟨w.heap.size, 0, none⟩) 1 1) [x] := heads_lit w [x] (by simp)
theorem flat_set0 : ∀ (A : List Hd) (i : Nat) (s : ByteArray), (flatB hB A).set (i * 2) (S s) = flatB hB (A.set i ⟨s, (A.getD i h0).v⟩)
  | [], i, s => rfl
  | x :: A, 0, s => rfl
  | x :: A, i + 1, s => by
    have ih := flat_set0 A i s
    show (S x.n :: S x.v :: flatB hB A).set ((i + 1) * 2) (S s) = S x.n :: S x.v :: flatB hB (A.set i ⟨s, (A.getD i h0).v⟩)
    rw [← ih, show (i + 1) * 2 = i * 2 + 1 + 1 by omega]
    rfl
theorem own_set0 {w : World} {b g cap : Nat} {A : List Hd} {i : Nat} (s : ByteArray) (h : w.ownsRow b 25 2 (.slice (some ⟨g, 0, none⟩) A.length cap) A.length (flatB hB A)) (hi : i < A.length) :
    (w.setCell ⟨g, i * 2, none⟩ (S s)).ownsRow b 25 2 (.slice (some ⟨g, 0, none⟩) A.length cap) A.length (flatB hB (A.set i ⟨s, (A.getD i h0).v⟩)) ∧ w.grownBy (w.setCell ⟨g, i * 2, none⟩ (S s)) (some g) := by
  refine ⟨?_, gby_set w g (i * 2) (S s)⟩
  rcases h.2 with ⟨h1, -⟩ | ⟨g', cap', cur, h1, h4, h5, h6, h7, h8, h9⟩
  · simp at h1
  · simp only [Value.slice.injEq, Option.some.injEq, Addr.mk.injEq, and_true, true_and] at h1
    obtain ⟨rfl, rfl⟩ := h1
    refine ⟨by rw [flatB_len hB_len, List.length_set], Or.inr ⟨g, cap, _, rfl, h4, set_at (i * 2) (S s) h5, h6, h7, by rw [Array.size_setIfInBounds]; exact h8, ?_⟩⟩
    rw [← flat_set0, ← h9, Array.toList_setIfInBounds, List.take_set]
theorem texts_none (w : World) : TextsAt w (.slice none 0 0) [] := ⟨none, 0, 0, 0, rfl, fun h => by simp at h⟩

set_option maxRecDepth 20000 in
set_option maxHeartbeats 8000000 in
theorem walk {w : World} (v0 : Value) (z0 : List Int) (hv0 : IntsAt w v0 z0) (hz0 : i64ok z0) (hm0 : z0.length ≤ maxLen) (a1 : Int) (l1 : -9223372036854775808 ≤ a1) (u1 : a1 ≤ 9223372036854775807) :
    Calls Tryd.prog 11 #[v0, I a1] w fun e w' => e = .returned (.bool true) ∧ Bl w w' := by
  have HM := Lib.hid (fun w' (hb : Bl w w') => heads_mk z0 v0 w' (Rd.below hv0 hb) hz0 hm0)
  have LV := Lib.hid lives_any
  have O1 := Lib.hid (fun w => one_any a1 w l1 u1)
  have okA := ok_heads z0 (min z0.length 12)
  have m1 := may_one a1
  obtain ⟨o, ho⟩ : ∃ z_, (oneF a1) = z_ := ⟨_, rfl⟩
  rw [ho] at O1 m1
  obtain ⟨on, ou⟩ := o
  obtain ⟨A, hA⟩ : ∃ z_, (headsF z0 (min z0.length 12)) = z_ := ⟨_, rfl⟩
  rw [hA] at okA
  simp only [hA] at HM
  have lA := okA.len
  clear hv0 hz0 hm0 l1 u1 ho hA
  go_enter Tryd.func11, Tryd.ntmps11
  go_wp2_with fail
  with_reducible refine (HM.out _ (Bl.rfl' _)).mono ?_
  rintro e w1 ⟨va, rfl, hOA, hb1⟩
  have hHA := heads_own hOA
  clear hOA
  replace hb1 := Lib.hid hb1
  replace hHA := Lib.hid hHA
  replace okA := Lib.hid okA
  go_wp2_with fail
  with_reducible refine (O1.out _).mono ?_
  rintro e w2 ⟨rfl, hn⟩
  have hb2 := hb1.out.tr hn
  have hA2 := hHA.out.bl hn
  have hlit := lit1 w2 ⟨on, ou⟩
  have hal := (Bl.rfl' w2).al (oH ⟨on, ou⟩)
  have ST := set_any va A _ [⟨on, ou⟩] _ (hA2.bl hal) hlit (by omega) (by simp)
  have hb3 := hb2.tr hal
  have hA3 := hA2.bl hal
  have lB := setP_len A 8 (by omega) lA [⟨on, ou⟩]
  obtain ⟨B, hB⟩ : ∃ z_, (setP A [⟨on, ou⟩]) = z_ := ⟨_, rfl⟩
  rw [hB] at ST lB
  obtain ⟨W3, hW3⟩ : ∃ X, w2.alloc (oH ⟨on, ou⟩) = X := ⟨_, rfl⟩
  have hW3' : w2.alloc (.cells #[.string on, .string ou] 25) = W3 := hW3
  have hW3'' : w2.alloc (.cells #[S on, S ou] 25) = W3 := hW3
  rw [hW3] at ST hb3 hA3
  clear hn hb1 hb2 hHA hA2 hlit hal hW3 hB m1
  replace ST := Lib.hid ST
  replace hb3 := Lib.hid hb3
  replace hA3 := Lib.hid hA3
  go_wp2_with fail
  with_reducible refine (ST.out).mono ?_
  rintro e w5 ⟨xb, rfl, hxb, hn⟩
  have hA5 := hA3.out.bl hn
  have DP := drop_any va A (.slice none 0 0) [] w5 hA5 (texts_none _) (by omega) (by decide)
  have lC := dropF_len A []
  obtain ⟨C, hC⟩ : ∃ z_, (dropF A []) = z_ := ⟨_, rfl⟩
  rw [hC] at DP lC
  have hb35 := hn
  clear hW3' hW3'' hC hA5
  replace DP := Lib.hid DP
  replace hxb := Lib.hid hxb
  replace hb35 := Lib.hid hb35
  clear ST hn
  go_wp2_with fail
  with_reducible refine (DP.out).mono ?_
  rintro e w6 ⟨xc, rfl, hxc, hn⟩
  have hB6 := OwnB.bl hxb.out hn
  have hb36 := hb35.out.tr hn
  have hsz := hb35.out.size
  have hs56 := hn.size
  obtain ⟨ba, bg, bcap, rfl, hbg, hbc1, hbc2, hbr⟩ := OwnB.row hB6 (by decide)
  obtain ⟨ca, cg, ccap, rfl, hcg, hcc1, hcc2, hcr⟩ := OwnB.row hxc (by decide)
  have hblt : ∀ q, (Value.slice ba B.length bcap).ownBlock = some q → q < w5.heap.size := fun q hq => (hxb.out.lt q hq).2
  clear hxb hn hbr hcr hbg hcg hb35 DP
  replace hB6 := Lib.hid hB6
  replace hxc := Lib.hid hxc
  replace hb36 := Lib.hid hb36
  replace hblt := Lib.hid hblt
  go_wp2_with fail
  go_loopw [8] (fun i wr => ∃ (k : Nat) (B' : List Hd), k ≤ B.length ∧ i = I k ∧ B'.length = B.length ∧ wr.ownsRow W3.heap.size 25 2 (.slice ba B'.length bcap) B'.length (flatB hB B') ∧ OwnB hB 2 25 wr w5.heap.size (.slice ca C.length ccap) C ∧ Bl W3 wr) (fun i _ => B.length - (intOf i).toNat)
  case atStart => exact ⟨0, B, by omega, rfl, rfl, hB6.out, hxc.out, hb36.out⟩
  case round =>
    obtain ⟨k, B', hk, rfl, hBl, hown, hoc, hbr⟩ := hrel
    by_cases hlt : k < B.length
    · have hk' : k < B'.length := by omega
      obtain ⟨g, hrag⟩ : ∃ g, ba = some ⟨g, 0, none⟩ := by
        rcases hown.2 with ⟨h1, h2⟩ | ⟨g, cap, cur, h1, -⟩
        · omega
        · cases h1; exact ⟨_, rfl⟩
      subst hrag
      obtain ⟨cur, hcur, hbg, z1, z0'⟩ := own_cells hown hk'
      have zf := free_at hcur (k * 2 + 1)
      obtain ⟨hown3, hg3⟩ := own_set ⟨#[116, 117, 114, 110, 101, 100]⟩ hown hk'
      have hgl : g < w5.heap.size := hblt.out g rfl
      have hoc3 := OwnB.gby hoc hg3 hgl
      have hb3' := hbr.grown hg3 (fun q hq => by cases hq; exact hbg)
      have wk : IntKind.i64.wrap ((k : Int) + 1) = ((k + 1 : Nat) : Int) := by rw [IntKind.wrap_i64]; omega
      clear hcur z0' hg3 hown hoc hbr
      replace hown3 := Lib.hid hown3
      replace hoc3 := Lib.hid hoc3
      replace hb3' := Lib.hid hb3'
      replace hBl := Lib.hid hBl
      go_wp2_with fail
      go_roundw
      case rel => exact ⟨k + 1, B'.set k ⟨(B'.getD k h0).n, ⟨#[116, 117, 114, 110, 101, 100]⟩⟩, by omega, by first | rfl | go_num, by rw [List.length_set]; exact hBl.out, by rw [List.length_set]; exact hown3.out, hoc3.out, hb3'.out⟩
      case measure => simp [intOf] <;> omega
    · obtain rfl : k = B.length := by omega
      obtain ⟨wD, hwD⟩ : ∃ x, x = wr := ⟨_, rfl⟩
      subst hwD
      clear hown hB6 hxc
      replace hoc := Lib.hid hoc
      replace hbr := Lib.hid hbr
      go_wp2_with fail
      go_loopw [9] (fun i wr => ∃ (k : Nat) (C' : List Hd), k ≤ C.length ∧ i = I k ∧ C'.length = C.length ∧ wr.ownsRow w5.heap.size 25 2 (.slice ca C'.length ccap) C'.length (flatB hB C') ∧ Bl W3 wr) (fun i _ => C.length - (intOf i).toNat)
      case atStart => exact ⟨0, C, by omega, rfl, rfl, hoc.out, hbr.out⟩
      case round =>
        obtain ⟨k, C', hk, rfl, hCl, hown, hbr⟩ := hrel
        by_cases hlt : k < C.length
        · have hk' : k < C'.length := by omega
          obtain ⟨g, hrag⟩ : ∃ g, ca = some ⟨g, 0, none⟩ := by
            rcases hown.2 with ⟨h1, h2⟩ | ⟨g, cap, cur, h1, -⟩
            · omega
            · cases h1; exact ⟨_, rfl⟩
          subst hrag
          obtain ⟨cur, hcur, hbg, z1, z0'⟩ := own_cells hown hk'
          have zf := free_at hcur (k * 2)
          obtain ⟨hown3, hg3⟩ := own_set0 ⟨#[116, 117, 114, 110, 101, 100]⟩ hown hk'
          have hb3' := hbr.grown hg3 (fun q hq => by cases hq; omega)
          have wk : IntKind.i64.wrap ((k : Int) + 1) = ((k + 1 : Nat) : Int) := by rw [IntKind.wrap_i64]; omega
          clear hcur z1 hg3 hown hbr
          replace hown3 := Lib.hid hown3
          replace hb3' := Lib.hid hb3'
          replace hCl := Lib.hid hCl
          go_wp2_with fail
          go_roundw
          case rel => exact ⟨k + 1, C'.set k ⟨⟨#[116, 117, 114, 110, 101, 100]⟩, (C'.getD k h0).v⟩, by omega, by first | rfl | go_num, by rw [List.length_set]; exact hCl.out, by rw [List.length_set]; exact hown3.out, hb3'.out⟩
          case measure => simp [intOf] <;> omega
        · obtain rfl : k = C.length := by omega
          have hbz := hb3.out.tr hbr
          have hAz := hA3.out.bl hbr
          have H2 := HM.out wr hbz
          clear hown hbr hoc hb36
          replace hbz := Lib.hid hbz
          replace hAz := Lib.hid hAz
          replace H2 := Lib.hid H2
          go_wp2_with fail
          with_reducible refine (H2.out).mono ?_
          rintro e w8 ⟨vd, rfl, hd, hn⟩
          have RW := row_any va A vd A w8 (hAz.out.bl hn) (heads_own hd) (by omega) (by omega)
          rw [decide_eq_true rfl] at RW
          have hby := hbz.out.tr hn
          clear hd hn
          replace RW := Lib.hid RW
          replace hby := Lib.hid hby
          go_wp2_with fail
          with_reducible refine (RW.out).mono ?_
          rintro e w9 ⟨rfl, hn⟩
          have hbx := hby.out.tr hn
          clear hn
          replace hbx := Lib.hid hbx
          go_wp2_with fail
          with_reducible refine (LV.out _).mono ?_
          rintro e wl ⟨rfl, hn⟩
          go_wp2_with fail
          go_ret
          exact ⟨rfl, hbx.out.tr hn⟩
end Go.Proofs.YtcbpagbalagllaaDoor.headsOwns
