/-
  CertForged is true for every input: a certificate of which one field is another one is refused, and any that was never given out. No condition.
-/
import Derived.Test.YtajnhjcinpdfhaaCrI
namespace Go.Proofs.Ytajnhjcinpdfhaa.certForged
open Go.ChangeShapes Go.WideShapes Go.ChangeAt Go.RowKit
open Go.Proofs.Ytajnhjcinpdfhaa.cert
set_option linter.unusedVariables false
set_option linter.unusedSimpArgs false



set_option maxHeartbeats 40000000 in
set_option maxRecDepth 20000 in
theorem walk {w : World} (v0 : Value) (z0 : List Int) (hv0 : IntsAt w v0 z0) (hz0 : i64ok z0) (hm0 : z0.length ≤ maxLen) (wh : Int) (l1 : -9223372036854775808 ≤ wh) (u1 : wh ≤ 9223372036854775807) (fi : Int) (l2 : -9223372036854775808 ≤ fi) (u2 : fi ≤ 9223372036854775807) (by_ : Int) (l3 : -9223372036854775808 ≤ by_) (u3 : by_ ≤ 9223372036854775807) (cs : Int) (l4 : -9223372036854775808 ≤ cs) (u4 : cs ≤ 9223372036854775807) (cr : Int) (l5 : -9223372036854775808 ≤ cr) (u5 : cr ≤ 9223372036854775807) (cvv : Int) (l6 : -9223372036854775808 ≤ cvv) (u6 : cvv ≤ 9223372036854775807) (cf : Int) (l7 : -9223372036854775808 ≤ cf) (u7 : cf ≤ 9223372036854775807) (ct : Int) (l8 : -9223372036854775808 ≤ ct) (u8 : ct ≤ 9223372036854775807) :
    Calls Try.prog 3 #[v0, .int .i64 wh, .int .i64 fi, .int .i64 by_, .agg #[.int .i64 cs, .int .i64 cr, .int .i64 cvv, .int .i64 cf, .int .i64 ct]] w fun e w' => e = .returned (.bool true) ∧ Bl w w' := by
  have AC := Lib.hid (fun w (hv : IntsAt w v0 z0) => acts_any z0 v0 w hv hz0 hm0)
  have hv0' := Lib.hid hv0
  have A1 := Lib.hid (fun w => around_any fi 5 w l2 u2 (by omega) (by omega))
  have A0 := Lib.hid (fun w m h1 h2 => around_any wh m w l1 u1 h1 h2)
  have f0 := around_lo fi 5 (by omega); have f1 := around_hi fi 5 (by omega)
  obtain ⟨ff, hff⟩ : ∃ z_, (around fi 5) = z_ := ⟨_, rfl⟩
  rw [hff] at A1 f0 f1
  have LV := Lib.hid lives_any
  have EQ := Lib.hid eq_crt
  have hY := heap_alloc_new w (.cells #[I cs, I cr, I cvv, I cf, I ct] 24)
  have hb0 := (Bl.rfl' w).al (.cells #[I cs, I cr, I cvv, I cf, I ct] 24)
  have hok : okCrt ⟨cs, cr, cvv, cf, ct⟩ := ⟨⟨l4, u4⟩, ⟨l5, u5⟩⟩
  obtain ⟨y, hy⟩ : ∃ z_, (w.heap.size) = z_ := ⟨_, rfl⟩
  rw [hy] at hY
  replace hY := Lib.hid hY
  replace hb0 := Lib.hid hb0
  replace hok := Lib.hid hok
  clear hv0 hff l4 u4 l5 u5 l6 u6 l7 u7 l8 u8 l2 u2
  go_enter Try.func3, Try.ntmps3
  go_wp2_with fail
  have AC1 := AC.out _ (hv0'.out.below hb0.out)
  unfold ActsD at AC1
  first | with_reducible refine (AC1).mono ?_ | refine (AC1).mono ?_
  rintro e w1 ⟨va, A, rfl, hAl, hA, hro, hb1⟩
  have hY1 := blk_bl hY.out hb1
  have hb1 := hb0.out.tr hb1
  have PL := played_any A w1 _ va hro hA hAl
  unfold PlayedD at PL
  have hOK := okPS A hA A.length (Nat.le_refl _)
  obtain ⟨hl1, hl2⟩ := playTo_len A A.length
  obtain ⟨s, hs⟩ : ∃ z_, (playTo A A.length) = z_ := ⟨_, rfl⟩
  rw [hs] at PL hOK hl1 hl2
  replace PL := Lib.hid PL
  replace hY1 := Lib.hid hY1
  replace hb1 := Lib.hid hb1
  replace hOK := Lib.hid hOK
  clear AC AC1 hA hro hs hY hb0
  go_wp2_with fail
  first | with_reducible refine (PL.out).mono ?_ | refine (PL.out).mono ?_
  rintro e w2 ⟨p, vo, ks, rfl, hC, hG, -, -, hb2⟩
  obtain ⟨U, G, S, t⟩ := s
  simp only at hC hG hl1 hl2 ⊢
  obtain ⟨aG, gG, cG, rfl, -, -, -, hRG⟩ := hG.row (by decide)
  have hY2 := blk_bl hY1.out hb2
  have hb2 := hb1.out.tr hb2
  have hok2 : ∀ x ∈ G, okCrt x := fun x hx => (mem_gv (s := ⟨U, G, S, t⟩) hOK.out (by show G.length ≤ 16; omega) (by show U.length ≤ 16; omega) hx).2
  have hl1' : U.length ≤ 16 := by omega
  clear hY1 hb1 PL hG
  have hgn := fun k hk => mem_take_succ G ⟨cs, cr, cvv, cf, ct⟩ k hk
  have hbq := fun k => crt_beq (G.getD k c0) ⟨cs, cr, cvv, cf, ct⟩
  have hnot := fun h now => chk_not (U := U) (S := S) (v := cvv) (now := now) (G := G) (c := ⟨cs, cr, cvv, cf, ct⟩) h
  have CK := fun w' (hb : Bl w2 w') => check_any (hC.bl hb) (by omega) (by omega) ⟨cs, cr, cvv, cf, ct⟩ cvv t hok.out
  have hz : decide ((⟨cs, cr, cvv, cf, ct⟩ : Crt) ∈ G.take 0) = false := by simp
  have hall : G.take G.length = G := List.take_length
  have hl3 : G.length ≤ 1000 := by omega
  obtain ⟨N, hN⟩ : ∃ z_, (G.length) = z_ := ⟨_, rfl⟩
  rw [hN] at hall hl2 ⊢
  simp only [hN] at hgn
  replace hok2 := Lib.hid hok2
  replace hC := Lib.hid hC
  replace hRG := Lib.hid hRG
  replace hY2 := Lib.hid hY2
  replace hb2 := Lib.hid hb2
  replace hgn := Lib.hid hgn
  replace hbq := Lib.hid hbq
  replace hnot := Lib.hid hnot
  replace CK := Lib.hid CK
  replace hz := Lib.hid hz
  replace hall := Lib.hid hall
  replace hN := Lib.hid hN
  go_wp2_with fail
  go_loopw [14, 15] (fun gv i wr => ∃ k : Nat, k ≤ N ∧ i = I k ∧ gv = .bool (decide ((⟨cs, cr, cvv, cf, ct⟩ : Crt) ∈ G.take k)) ∧ Bl w2 wr) (fun _ i _ => N - (intOf i).toNat)
  case atStart => exact ⟨0, by omega, rfl, by rw [hz.out], Bl.rfl' _⟩
  case round =>
    obtain ⟨k, hk, rfl, rfl, hbr⟩ := hrel
    by_cases hlt : k < N
    · obtain ⟨rfl, q⟩ := (hRG.out.bl hbr).c0 cB_len c0 k (by rw [hN.out]; exact hlt)
      have q0 := q 0 (by decide); have q1 := q 1 (by decide); have q2 := q 2 (by decide); have q3 := q 3 (by decide); have q4 := q 4 (by decide)
      simp only [Nat.add_zero, List.getElem?_cons_zero, List.getElem?_cons_succ] at q0 q1 q2 q3 q4
      have hg1 := hgn.out k hlt
      have hb1 := hbq.out k
      obtain ⟨x, hx⟩ : ∃ z_, (G.getD k c0) = z_ := ⟨_, rfl⟩
      rw [hx] at q0 q1 q2 q3 q4 hg1 hb1
      rw [← hb1] at hg1
      obtain ⟨xs, xr, xv, xf, xt⟩ := x
      simp only at q0 q1 q2 q3 q4 hg1
      obtain ⟨y0, y1, y2, y3, y4⟩ := five (blk_bl hY2.out hbr)
      have EQ1 := fun w => EQ.out xs xr xv xf xt cs cr cvv cf ct w
      obtain ⟨eb, heb⟩ : ∃ z_, ((xs == cs && (xr == cr && (xv == cvv && (xf == cf && xt == ct))))) = z_ := ⟨_, rfl⟩
      rw [heb] at hg1
      simp only [heb] at EQ1
      obtain ⟨gv, hgv⟩ : ∃ z_, (decide ((⟨cs, cr, cvv, cf, ct⟩ : Crt) ∈ G.take k)) = z_ := ⟨_, rfl⟩
      rw [hgv] at hg1
      rw [hgv]
      replace hg1 := Lib.hid hg1
      replace hbr := Lib.hid hbr
      clear q hx hb1 heb hgv
      cases gv with
      | true =>
        go_wp2_with fail
        go_quiet (fail)
        go_wp2_with fail
        go_roundw
        case rel => exact ⟨k + 1, by omega, by go_num, by rw [hg1.out]; rfl, hbr.out.drn _⟩
        case measure => simp [intOf] <;> omega
      | false =>
        go_wp2_with fail
        go_quiet (fail)
        go_wp2_with fail
        go_roundw
        case rel => exact ⟨k + 1, by omega, by go_num, by rw [hg1.out]; rfl, hbr.out.drn _⟩
        case measure => simp [intOf] <;> omega
    · obtain rfl : N = k := by omega
      rw [hall.out]
      obtain ⟨y0, y1, y2, y3, y4⟩ := five (blk_bl hY2.out hbr)
      by_cases hc : (⟨cs, cr, cvv, cf, ct⟩ : Crt) ∈ G
      · rw [decide_eq_true hc]
        clear hc
        replace hbr := Lib.hid hbr
        by_cases hN0 : N = 0
        · subst hN0
          go_wp2_with fail
          refine (LV.out _).mono ?_
          rintro e w9 ⟨rfl, hb9⟩
          have hbf := hb2.out.tr (hbr.out.tr hb9)
          replace hbf := Lib.hid hbf
          go_wp2_with fail
          go_ret
          exact ⟨rfl, hbf.out⟩
        · have n1 : ((N : Int) == 0) = false := beq_eq_false_iff_ne.2 (by omega)
          by_cases hb0 : by_ = 0
          · subst hb0
            go_wp2_with fail
            refine (LV.out _).mono ?_
            rintro e w9 ⟨rfl, hb9⟩
            have hbf := hb2.out.tr (hbr.out.tr hb9)
            replace hbf := Lib.hid hbf
            go_wp2_with fail
            go_ret
            exact ⟨rfl, hbf.out⟩
          · have n2 : (by_ == 0) = false := beq_eq_false_iff_ne.2 hb0
            have A01 := A0.out wr N (by omega) (by omega)
            have r0 := around_lo wh N (by omega); have r1 := around_hi wh N (by omega)
            obtain ⟨q', hq'⟩ : ∃ z_, (around wh N) = z_ := ⟨_, rfl⟩
            rw [hq'] at A01 r0 r1
            obtain ⟨q, rfl⟩ : ∃ q : Nat, (q : Int) = q' := ⟨q'.toNat, by omega⟩
            obtain ⟨rfl, qc⟩ := (hRG.out.bl hbr.out).c0 cB_len c0 q (by rw [hN.out]; omega)
            have q0 := qc 0 (by decide); have q1 := qc 1 (by decide); have q2 := qc 2 (by decide); have q3 := qc 3 (by decide); have q4 := qc 4 (by decide)
            simp only [Nat.add_zero, List.getElem?_cons_zero, List.getElem?_cons_succ] at q0 q1 q2 q3 q4
            have hxo := (hok2.out _ (getD_mem G q c0 (by rw [hN.out]; omega)))
            obtain ⟨x, hx⟩ : ∃ z_, (G.getD q c0) = z_ := ⟨_, rfl⟩
            rw [hx] at q0 q1 q2 q3 q4 hxo
            obtain ⟨xs, xr, xv, xf, xt⟩ := x
            obtain ⟨⟨o1, o2⟩, ⟨o3, o4⟩⟩ := hxo
            simp only at q0 q1 q2 q3 q4 o1 o2 o3 o4
            replace A01 := Lib.hid A01
            clear qc hx hq' hN0 hb0
            go_wp2_with fail
            refine A01.out.mono ?_
            rintro e w' ⟨rfl, rfl⟩
            go_wp2_with fail
            refine (A1.out _).mono ?_
            rintro e w' ⟨rfl, rfl⟩
            clear q0 q1 q2 q3 q4 A01
            have hfc : ff = 0 ∨ ff = 1 ∨ ff = 2 ∨ ff = 3 ∨ ff = 4 := by omega
            rcases hfc with rfl | rfl | rfl | rfl | rfl
            · have hw := wrap_range (xs + by_)
              obtain ⟨nx, hnx⟩ : ∃ z_, (IntKind.i64.wrap (xs + by_)) = z_ := ⟨_, rfl⟩
              rw [hnx] at hw
              have hX := heap_alloc_new wr (.cells #[I nx, I xr, I xv, I xf, I xt] 24)
              have hbX := hbr.out.al (.cells #[I nx, I xr, I xv, I xf, I xt] 24)
              have hgm := fun k hk => mem_take_succ G ⟨nx, xr, xv, xf, xt⟩ k hk
              have hbm := fun k => crt_beq (G.getD k c0) ⟨nx, xr, xv, xf, xt⟩
              have hnt := fun h => chk_not (U := U) (S := S) (v := xv) (now := t) (G := G) (c := ⟨nx, xr, xv, xf, xt⟩) h
              have hoX : okCrt ⟨nx, xr, xv, xf, xt⟩ := ⟨⟨by simp only; omega, by simp only; omega⟩, ⟨by simp only; omega, by simp only; omega⟩⟩
              have CX := fun w' (hb : Bl w2 w') => check_any (hC.out.bl hb) (by omega) hl3 ⟨nx, xr, xv, xf, xt⟩ xv t hoX
              have hzm : decide ((⟨nx, xr, xv, xf, xt⟩ : Crt) ∈ G.take 0) = false := by simp
              obtain ⟨yx, hyx⟩ : ∃ z_, ((wr).heap.size) = z_ := ⟨_, rfl⟩
              rw [hyx] at hX
              simp only [hN.out] at hgm
              replace hX := Lib.hid hX
              replace hbX := Lib.hid hbX
              replace hgm := Lib.hid hgm
              replace hbm := Lib.hid hbm
              replace hnt := Lib.hid hnt
              replace CX := Lib.hid CX
              replace hzm := Lib.hid hzm
              go_wp2_with fail
              go_loopw [17, 18] (fun gv i wz => ∃ k : Nat, k ≤ N ∧ i = I k ∧ gv = .bool (decide ((⟨nx, xr, xv, xf, xt⟩ : Crt) ∈ G.take k)) ∧ Bl ((wr).alloc (.cells #[I nx, I xr, I xv, I xf, I xt] 24)) wz) (fun _ i _ => N - (intOf i).toNat)
              case atStart => exact ⟨0, by omega, rfl, by rw [hzm.out], Bl.rfl' _⟩
              case round =>
                obtain ⟨k, hk, rfl, rfl, hbq2⟩ := hrel
                have hbt := hbX.out.tr hbq2
                by_cases hlt : k < N
                · obtain ⟨_, q⟩ := (hRG.out.bl hbt).c0 cB_len c0 k (by rw [hN.out]; exact hlt)
                  have q0 := q 0 (by decide); have q1 := q 1 (by decide); have q2 := q 2 (by decide); have q3 := q 3 (by decide); have q4 := q 4 (by decide)
                  simp only [Nat.add_zero, List.getElem?_cons_zero, List.getElem?_cons_succ] at q0 q1 q2 q3 q4
                  have hg1 := hgm.out k hlt
                  have hb1 := hbm.out k
                  obtain ⟨z, hz⟩ : ∃ z_, (G.getD k c0) = z_ := ⟨_, rfl⟩
                  rw [hz] at q0 q1 q2 q3 q4 hg1 hb1
                  rw [← hb1] at hg1
                  obtain ⟨zs, zr, zv, zf, zt⟩ := z
                  simp only at q0 q1 q2 q3 q4 hg1
                  obtain ⟨y0, y1, y2, y3, y4⟩ := five (blk_bl hX.out hbq2)
                  have EQ1 := fun w => EQ.out zs zr zv zf zt nx xr xv xf xt w
                  obtain ⟨eb, heb⟩ : ∃ z_, ((zs == nx && (zr == xr && (zv == xv && (zf == xf && zt == xt))))) = z_ := ⟨_, rfl⟩
                  rw [heb] at hg1
                  simp only [heb] at EQ1
                  obtain ⟨gv, hgv⟩ : ∃ z_, (decide ((⟨nx, xr, xv, xf, xt⟩ : Crt) ∈ G.take k)) = z_ := ⟨_, rfl⟩
                  rw [hgv] at hg1
                  rw [hgv]
                  replace hg1 := Lib.hid hg1
                  replace hbq2 := Lib.hid hbq2
                  clear q hz hb1 heb hgv hbt
                  cases gv with
                  | true =>
                    go_wp2_with fail
                    go_quiet (fail)
                    go_wp2_with fail
                    go_roundw
                    case rel => exact ⟨k + 1, by omega, by go_num, by rw [hg1.out]; rfl, hbq2.out.drn _⟩
                    case measure => simp [intOf] <;> omega
                  | false =>
                    go_wp2_with fail
                    go_quiet (fail)
                    go_wp2_with fail
                    go_roundw
                    case rel => exact ⟨k + 1, by omega, by go_num, by rw [hg1.out]; rfl, hbq2.out.drn _⟩
                    case measure => simp [intOf] <;> omega
                · obtain rfl : k = N := by omega
                  rw [hall.out]
                  obtain ⟨y0, y1, y2, y3, y4⟩ := five (blk_bl hX.out hbq2)
                  by_cases hc : (⟨nx, xr, xv, xf, xt⟩ : Crt) ∈ G
                  · rw [decide_eq_true hc]
                    replace hbt := Lib.hid hbt
                    clear hc
                    go_wp2_with fail
                    refine (LV.out _).mono ?_
                    rintro e w9 ⟨rfl, hb9⟩
                    have hbf := hb2.out.tr (hbt.out.tr hb9)
                    replace hbf := Lib.hid hbf
                    go_wp2_with fail
                    go_ret
                    exact ⟨rfl, hbf.out⟩
                  · rw [decide_eq_false hc]
                    have CX1 := CX.out _ hbt
                    rw [hnt.out hc] at CX1
                    replace hbt := Lib.hid hbt
                    replace CX1 := Lib.hid CX1
                    clear hc
                    go_wp2_with fail
                    refine CX1.out.mono ?_
                    rintro e w8 ⟨rfl, hb8⟩
                    go_wp2_with fail
                    refine (LV.out _).mono ?_
                    rintro e w9 ⟨rfl, hb9⟩
                    have hbf := hb2.out.tr ((hbt.out.tr hb8).tr hb9)
                    replace hbf := Lib.hid hbf
                    go_wp2_with fail
                    go_ret
                    exact ⟨rfl, hbf.out⟩
            · have hw := wrap_range (xr + by_)
              obtain ⟨nx, hnx⟩ : ∃ z_, (IntKind.i64.wrap (xr + by_)) = z_ := ⟨_, rfl⟩
              rw [hnx] at hw
              have hX := heap_alloc_new wr (.cells #[I xs, I nx, I xv, I xf, I xt] 24)
              have hbX := hbr.out.al (.cells #[I xs, I nx, I xv, I xf, I xt] 24)
              have hgm := fun k hk => mem_take_succ G ⟨xs, nx, xv, xf, xt⟩ k hk
              have hbm := fun k => crt_beq (G.getD k c0) ⟨xs, nx, xv, xf, xt⟩
              have hnt := fun h => chk_not (U := U) (S := S) (v := xv) (now := t) (G := G) (c := ⟨xs, nx, xv, xf, xt⟩) h
              have hoX : okCrt ⟨xs, nx, xv, xf, xt⟩ := ⟨⟨by simp only; omega, by simp only; omega⟩, ⟨by simp only; omega, by simp only; omega⟩⟩
              have CX := fun w' (hb : Bl w2 w') => check_any (hC.out.bl hb) (by omega) hl3 ⟨xs, nx, xv, xf, xt⟩ xv t hoX
              have hzm : decide ((⟨xs, nx, xv, xf, xt⟩ : Crt) ∈ G.take 0) = false := by simp
              obtain ⟨yx, hyx⟩ : ∃ z_, ((wr).heap.size) = z_ := ⟨_, rfl⟩
              rw [hyx] at hX
              simp only [hN.out] at hgm
              replace hX := Lib.hid hX
              replace hbX := Lib.hid hbX
              replace hgm := Lib.hid hgm
              replace hbm := Lib.hid hbm
              replace hnt := Lib.hid hnt
              replace CX := Lib.hid CX
              replace hzm := Lib.hid hzm
              go_wp2_with fail
              go_loopw [17, 18] (fun gv i wz => ∃ k : Nat, k ≤ N ∧ i = I k ∧ gv = .bool (decide ((⟨xs, nx, xv, xf, xt⟩ : Crt) ∈ G.take k)) ∧ Bl ((wr).alloc (.cells #[I xs, I nx, I xv, I xf, I xt] 24)) wz) (fun _ i _ => N - (intOf i).toNat)
              case atStart => exact ⟨0, by omega, rfl, by rw [hzm.out], Bl.rfl' _⟩
              case round =>
                obtain ⟨k, hk, rfl, rfl, hbq2⟩ := hrel
                have hbt := hbX.out.tr hbq2
                by_cases hlt : k < N
                · obtain ⟨_, q⟩ := (hRG.out.bl hbt).c0 cB_len c0 k (by rw [hN.out]; exact hlt)
                  have q0 := q 0 (by decide); have q1 := q 1 (by decide); have q2 := q 2 (by decide); have q3 := q 3 (by decide); have q4 := q 4 (by decide)
                  simp only [Nat.add_zero, List.getElem?_cons_zero, List.getElem?_cons_succ] at q0 q1 q2 q3 q4
                  have hg1 := hgm.out k hlt
                  have hb1 := hbm.out k
                  obtain ⟨z, hz⟩ : ∃ z_, (G.getD k c0) = z_ := ⟨_, rfl⟩
                  rw [hz] at q0 q1 q2 q3 q4 hg1 hb1
                  rw [← hb1] at hg1
                  obtain ⟨zs, zr, zv, zf, zt⟩ := z
                  simp only at q0 q1 q2 q3 q4 hg1
                  obtain ⟨y0, y1, y2, y3, y4⟩ := five (blk_bl hX.out hbq2)
                  have EQ1 := fun w => EQ.out zs zr zv zf zt xs nx xv xf xt w
                  obtain ⟨eb, heb⟩ : ∃ z_, ((zs == xs && (zr == nx && (zv == xv && (zf == xf && zt == xt))))) = z_ := ⟨_, rfl⟩
                  rw [heb] at hg1
                  simp only [heb] at EQ1
                  obtain ⟨gv, hgv⟩ : ∃ z_, (decide ((⟨xs, nx, xv, xf, xt⟩ : Crt) ∈ G.take k)) = z_ := ⟨_, rfl⟩
                  rw [hgv] at hg1
                  rw [hgv]
                  replace hg1 := Lib.hid hg1
                  replace hbq2 := Lib.hid hbq2
                  clear q hz hb1 heb hgv hbt
                  cases gv with
                  | true =>
                    go_wp2_with fail
                    go_quiet (fail)
                    go_wp2_with fail
                    go_roundw
                    case rel => exact ⟨k + 1, by omega, by go_num, by rw [hg1.out]; rfl, hbq2.out.drn _⟩
                    case measure => simp [intOf] <;> omega
                  | false =>
                    go_wp2_with fail
                    go_quiet (fail)
                    go_wp2_with fail
                    go_roundw
                    case rel => exact ⟨k + 1, by omega, by go_num, by rw [hg1.out]; rfl, hbq2.out.drn _⟩
                    case measure => simp [intOf] <;> omega
                · obtain rfl : k = N := by omega
                  rw [hall.out]
                  obtain ⟨y0, y1, y2, y3, y4⟩ := five (blk_bl hX.out hbq2)
                  by_cases hc : (⟨xs, nx, xv, xf, xt⟩ : Crt) ∈ G
                  · rw [decide_eq_true hc]
                    replace hbt := Lib.hid hbt
                    clear hc
                    go_wp2_with fail
                    refine (LV.out _).mono ?_
                    rintro e w9 ⟨rfl, hb9⟩
                    have hbf := hb2.out.tr (hbt.out.tr hb9)
                    replace hbf := Lib.hid hbf
                    go_wp2_with fail
                    go_ret
                    exact ⟨rfl, hbf.out⟩
                  · rw [decide_eq_false hc]
                    have CX1 := CX.out _ hbt
                    rw [hnt.out hc] at CX1
                    replace hbt := Lib.hid hbt
                    replace CX1 := Lib.hid CX1
                    clear hc
                    go_wp2_with fail
                    refine CX1.out.mono ?_
                    rintro e w8 ⟨rfl, hb8⟩
                    go_wp2_with fail
                    refine (LV.out _).mono ?_
                    rintro e w9 ⟨rfl, hb9⟩
                    have hbf := hb2.out.tr ((hbt.out.tr hb8).tr hb9)
                    replace hbf := Lib.hid hbf
                    go_wp2_with fail
                    go_ret
                    exact ⟨rfl, hbf.out⟩
            · obtain ⟨nx, hnx⟩ : ∃ z_, (IntKind.i64.wrap (xv + by_)) = z_ := ⟨_, rfl⟩
              have hX := heap_alloc_new wr (.cells #[I xs, I xr, I nx, I xf, I xt] 24)
              have hbX := hbr.out.al (.cells #[I xs, I xr, I nx, I xf, I xt] 24)
              have hgm := fun k hk => mem_take_succ G ⟨xs, xr, nx, xf, xt⟩ k hk
              have hbm := fun k => crt_beq (G.getD k c0) ⟨xs, xr, nx, xf, xt⟩
              have hnt := fun h => chk_not (U := U) (S := S) (v := nx) (now := t) (G := G) (c := ⟨xs, xr, nx, xf, xt⟩) h
              have hoX : okCrt ⟨xs, xr, nx, xf, xt⟩ := ⟨⟨by simp only; omega, by simp only; omega⟩, ⟨by simp only; omega, by simp only; omega⟩⟩
              have CX := fun w' (hb : Bl w2 w') => check_any (hC.out.bl hb) (by omega) hl3 ⟨xs, xr, nx, xf, xt⟩ nx t hoX
              have hzm : decide ((⟨xs, xr, nx, xf, xt⟩ : Crt) ∈ G.take 0) = false := by simp
              obtain ⟨yx, hyx⟩ : ∃ z_, ((wr).heap.size) = z_ := ⟨_, rfl⟩
              rw [hyx] at hX
              simp only [hN.out] at hgm
              replace hX := Lib.hid hX
              replace hbX := Lib.hid hbX
              replace hgm := Lib.hid hgm
              replace hbm := Lib.hid hbm
              replace hnt := Lib.hid hnt
              replace CX := Lib.hid CX
              replace hzm := Lib.hid hzm
              go_wp2_with fail
              go_loopw [17, 18] (fun gv i wz => ∃ k : Nat, k ≤ N ∧ i = I k ∧ gv = .bool (decide ((⟨xs, xr, nx, xf, xt⟩ : Crt) ∈ G.take k)) ∧ Bl ((wr).alloc (.cells #[I xs, I xr, I nx, I xf, I xt] 24)) wz) (fun _ i _ => N - (intOf i).toNat)
              case atStart => exact ⟨0, by omega, rfl, by rw [hzm.out], Bl.rfl' _⟩
              case round =>
                obtain ⟨k, hk, rfl, rfl, hbq2⟩ := hrel
                have hbt := hbX.out.tr hbq2
                by_cases hlt : k < N
                · obtain ⟨_, q⟩ := (hRG.out.bl hbt).c0 cB_len c0 k (by rw [hN.out]; exact hlt)
                  have q0 := q 0 (by decide); have q1 := q 1 (by decide); have q2 := q 2 (by decide); have q3 := q 3 (by decide); have q4 := q 4 (by decide)
                  simp only [Nat.add_zero, List.getElem?_cons_zero, List.getElem?_cons_succ] at q0 q1 q2 q3 q4
                  have hg1 := hgm.out k hlt
                  have hb1 := hbm.out k
                  obtain ⟨z, hz⟩ : ∃ z_, (G.getD k c0) = z_ := ⟨_, rfl⟩
                  rw [hz] at q0 q1 q2 q3 q4 hg1 hb1
                  rw [← hb1] at hg1
                  obtain ⟨zs, zr, zv, zf, zt⟩ := z
                  simp only at q0 q1 q2 q3 q4 hg1
                  obtain ⟨y0, y1, y2, y3, y4⟩ := five (blk_bl hX.out hbq2)
                  have EQ1 := fun w => EQ.out zs zr zv zf zt xs xr nx xf xt w
                  obtain ⟨eb, heb⟩ : ∃ z_, ((zs == xs && (zr == xr && (zv == nx && (zf == xf && zt == xt))))) = z_ := ⟨_, rfl⟩
                  rw [heb] at hg1
                  simp only [heb] at EQ1
                  obtain ⟨gv, hgv⟩ : ∃ z_, (decide ((⟨xs, xr, nx, xf, xt⟩ : Crt) ∈ G.take k)) = z_ := ⟨_, rfl⟩
                  rw [hgv] at hg1
                  rw [hgv]
                  replace hg1 := Lib.hid hg1
                  replace hbq2 := Lib.hid hbq2
                  clear q hz hb1 heb hgv hbt
                  cases gv with
                  | true =>
                    go_wp2_with fail
                    go_quiet (fail)
                    go_wp2_with fail
                    go_roundw
                    case rel => exact ⟨k + 1, by omega, by go_num, by rw [hg1.out]; rfl, hbq2.out.drn _⟩
                    case measure => simp [intOf] <;> omega
                  | false =>
                    go_wp2_with fail
                    go_quiet (fail)
                    go_wp2_with fail
                    go_roundw
                    case rel => exact ⟨k + 1, by omega, by go_num, by rw [hg1.out]; rfl, hbq2.out.drn _⟩
                    case measure => simp [intOf] <;> omega
                · obtain rfl : k = N := by omega
                  rw [hall.out]
                  obtain ⟨y0, y1, y2, y3, y4⟩ := five (blk_bl hX.out hbq2)
                  by_cases hc : (⟨xs, xr, nx, xf, xt⟩ : Crt) ∈ G
                  · rw [decide_eq_true hc]
                    replace hbt := Lib.hid hbt
                    clear hc
                    go_wp2_with fail
                    refine (LV.out _).mono ?_
                    rintro e w9 ⟨rfl, hb9⟩
                    have hbf := hb2.out.tr (hbt.out.tr hb9)
                    replace hbf := Lib.hid hbf
                    go_wp2_with fail
                    go_ret
                    exact ⟨rfl, hbf.out⟩
                  · rw [decide_eq_false hc]
                    have CX1 := CX.out _ hbt
                    rw [hnt.out hc] at CX1
                    replace hbt := Lib.hid hbt
                    replace CX1 := Lib.hid CX1
                    clear hc
                    go_wp2_with fail
                    refine CX1.out.mono ?_
                    rintro e w8 ⟨rfl, hb8⟩
                    go_wp2_with fail
                    refine (LV.out _).mono ?_
                    rintro e w9 ⟨rfl, hb9⟩
                    have hbf := hb2.out.tr ((hbt.out.tr hb8).tr hb9)
                    replace hbf := Lib.hid hbf
                    go_wp2_with fail
                    go_ret
                    exact ⟨rfl, hbf.out⟩
            · obtain ⟨nx, hnx⟩ : ∃ z_, (IntKind.i64.wrap (xf + by_)) = z_ := ⟨_, rfl⟩
              have hX := heap_alloc_new wr (.cells #[I xs, I xr, I xv, I nx, I xt] 24)
              have hbX := hbr.out.al (.cells #[I xs, I xr, I xv, I nx, I xt] 24)
              have hgm := fun k hk => mem_take_succ G ⟨xs, xr, xv, nx, xt⟩ k hk
              have hbm := fun k => crt_beq (G.getD k c0) ⟨xs, xr, xv, nx, xt⟩
              have hnt := fun h => chk_not (U := U) (S := S) (v := xv) (now := t) (G := G) (c := ⟨xs, xr, xv, nx, xt⟩) h
              have hoX : okCrt ⟨xs, xr, xv, nx, xt⟩ := ⟨⟨by simp only; omega, by simp only; omega⟩, ⟨by simp only; omega, by simp only; omega⟩⟩
              have CX := fun w' (hb : Bl w2 w') => check_any (hC.out.bl hb) (by omega) hl3 ⟨xs, xr, xv, nx, xt⟩ xv t hoX
              have hzm : decide ((⟨xs, xr, xv, nx, xt⟩ : Crt) ∈ G.take 0) = false := by simp
              obtain ⟨yx, hyx⟩ : ∃ z_, ((wr).heap.size) = z_ := ⟨_, rfl⟩
              rw [hyx] at hX
              simp only [hN.out] at hgm
              replace hX := Lib.hid hX
              replace hbX := Lib.hid hbX
              replace hgm := Lib.hid hgm
              replace hbm := Lib.hid hbm
              replace hnt := Lib.hid hnt
              replace CX := Lib.hid CX
              replace hzm := Lib.hid hzm
              go_wp2_with fail
              go_loopw [17, 18] (fun gv i wz => ∃ k : Nat, k ≤ N ∧ i = I k ∧ gv = .bool (decide ((⟨xs, xr, xv, nx, xt⟩ : Crt) ∈ G.take k)) ∧ Bl ((wr).alloc (.cells #[I xs, I xr, I xv, I nx, I xt] 24)) wz) (fun _ i _ => N - (intOf i).toNat)
              case atStart => exact ⟨0, by omega, rfl, by rw [hzm.out], Bl.rfl' _⟩
              case round =>
                obtain ⟨k, hk, rfl, rfl, hbq2⟩ := hrel
                have hbt := hbX.out.tr hbq2
                by_cases hlt : k < N
                · obtain ⟨_, q⟩ := (hRG.out.bl hbt).c0 cB_len c0 k (by rw [hN.out]; exact hlt)
                  have q0 := q 0 (by decide); have q1 := q 1 (by decide); have q2 := q 2 (by decide); have q3 := q 3 (by decide); have q4 := q 4 (by decide)
                  simp only [Nat.add_zero, List.getElem?_cons_zero, List.getElem?_cons_succ] at q0 q1 q2 q3 q4
                  have hg1 := hgm.out k hlt
                  have hb1 := hbm.out k
                  obtain ⟨z, hz⟩ : ∃ z_, (G.getD k c0) = z_ := ⟨_, rfl⟩
                  rw [hz] at q0 q1 q2 q3 q4 hg1 hb1
                  rw [← hb1] at hg1
                  obtain ⟨zs, zr, zv, zf, zt⟩ := z
                  simp only at q0 q1 q2 q3 q4 hg1
                  obtain ⟨y0, y1, y2, y3, y4⟩ := five (blk_bl hX.out hbq2)
                  have EQ1 := fun w => EQ.out zs zr zv zf zt xs xr xv nx xt w
                  obtain ⟨eb, heb⟩ : ∃ z_, ((zs == xs && (zr == xr && (zv == xv && (zf == nx && zt == xt))))) = z_ := ⟨_, rfl⟩
                  rw [heb] at hg1
                  simp only [heb] at EQ1
                  obtain ⟨gv, hgv⟩ : ∃ z_, (decide ((⟨xs, xr, xv, nx, xt⟩ : Crt) ∈ G.take k)) = z_ := ⟨_, rfl⟩
                  rw [hgv] at hg1
                  rw [hgv]
                  replace hg1 := Lib.hid hg1
                  replace hbq2 := Lib.hid hbq2
                  clear q hz hb1 heb hgv hbt
                  cases gv with
                  | true =>
                    go_wp2_with fail
                    go_quiet (fail)
                    go_wp2_with fail
                    go_roundw
                    case rel => exact ⟨k + 1, by omega, by go_num, by rw [hg1.out]; rfl, hbq2.out.drn _⟩
                    case measure => simp [intOf] <;> omega
                  | false =>
                    go_wp2_with fail
                    go_quiet (fail)
                    go_wp2_with fail
                    go_roundw
                    case rel => exact ⟨k + 1, by omega, by go_num, by rw [hg1.out]; rfl, hbq2.out.drn _⟩
                    case measure => simp [intOf] <;> omega
                · obtain rfl : k = N := by omega
                  rw [hall.out]
                  obtain ⟨y0, y1, y2, y3, y4⟩ := five (blk_bl hX.out hbq2)
                  by_cases hc : (⟨xs, xr, xv, nx, xt⟩ : Crt) ∈ G
                  · rw [decide_eq_true hc]
                    replace hbt := Lib.hid hbt
                    clear hc
                    go_wp2_with fail
                    refine (LV.out _).mono ?_
                    rintro e w9 ⟨rfl, hb9⟩
                    have hbf := hb2.out.tr (hbt.out.tr hb9)
                    replace hbf := Lib.hid hbf
                    go_wp2_with fail
                    go_ret
                    exact ⟨rfl, hbf.out⟩
                  · rw [decide_eq_false hc]
                    have CX1 := CX.out _ hbt
                    rw [hnt.out hc] at CX1
                    replace hbt := Lib.hid hbt
                    replace CX1 := Lib.hid CX1
                    clear hc
                    go_wp2_with fail
                    refine CX1.out.mono ?_
                    rintro e w8 ⟨rfl, hb8⟩
                    go_wp2_with fail
                    refine (LV.out _).mono ?_
                    rintro e w9 ⟨rfl, hb9⟩
                    have hbf := hb2.out.tr ((hbt.out.tr hb8).tr hb9)
                    replace hbf := Lib.hid hbf
                    go_wp2_with fail
                    go_ret
                    exact ⟨rfl, hbf.out⟩
            · obtain ⟨nx, hnx⟩ : ∃ z_, (IntKind.i64.wrap (xt + by_)) = z_ := ⟨_, rfl⟩
              have hX := heap_alloc_new wr (.cells #[I xs, I xr, I xv, I xf, I nx] 24)
              have hbX := hbr.out.al (.cells #[I xs, I xr, I xv, I xf, I nx] 24)
              have hgm := fun k hk => mem_take_succ G ⟨xs, xr, xv, xf, nx⟩ k hk
              have hbm := fun k => crt_beq (G.getD k c0) ⟨xs, xr, xv, xf, nx⟩
              have hnt := fun h => chk_not (U := U) (S := S) (v := xv) (now := t) (G := G) (c := ⟨xs, xr, xv, xf, nx⟩) h
              have hoX : okCrt ⟨xs, xr, xv, xf, nx⟩ := ⟨⟨by simp only; omega, by simp only; omega⟩, ⟨by simp only; omega, by simp only; omega⟩⟩
              have CX := fun w' (hb : Bl w2 w') => check_any (hC.out.bl hb) (by omega) hl3 ⟨xs, xr, xv, xf, nx⟩ xv t hoX
              have hzm : decide ((⟨xs, xr, xv, xf, nx⟩ : Crt) ∈ G.take 0) = false := by simp
              obtain ⟨yx, hyx⟩ : ∃ z_, ((wr).heap.size) = z_ := ⟨_, rfl⟩
              rw [hyx] at hX
              simp only [hN.out] at hgm
              replace hX := Lib.hid hX
              replace hbX := Lib.hid hbX
              replace hgm := Lib.hid hgm
              replace hbm := Lib.hid hbm
              replace hnt := Lib.hid hnt
              replace CX := Lib.hid CX
              replace hzm := Lib.hid hzm
              go_wp2_with fail
              go_loopw [17, 18] (fun gv i wz => ∃ k : Nat, k ≤ N ∧ i = I k ∧ gv = .bool (decide ((⟨xs, xr, xv, xf, nx⟩ : Crt) ∈ G.take k)) ∧ Bl ((wr).alloc (.cells #[I xs, I xr, I xv, I xf, I nx] 24)) wz) (fun _ i _ => N - (intOf i).toNat)
              case atStart => exact ⟨0, by omega, rfl, by rw [hzm.out], Bl.rfl' _⟩
              case round =>
                obtain ⟨k, hk, rfl, rfl, hbq2⟩ := hrel
                have hbt := hbX.out.tr hbq2
                by_cases hlt : k < N
                · obtain ⟨_, q⟩ := (hRG.out.bl hbt).c0 cB_len c0 k (by rw [hN.out]; exact hlt)
                  have q0 := q 0 (by decide); have q1 := q 1 (by decide); have q2 := q 2 (by decide); have q3 := q 3 (by decide); have q4 := q 4 (by decide)
                  simp only [Nat.add_zero, List.getElem?_cons_zero, List.getElem?_cons_succ] at q0 q1 q2 q3 q4
                  have hg1 := hgm.out k hlt
                  have hb1 := hbm.out k
                  obtain ⟨z, hz⟩ : ∃ z_, (G.getD k c0) = z_ := ⟨_, rfl⟩
                  rw [hz] at q0 q1 q2 q3 q4 hg1 hb1
                  rw [← hb1] at hg1
                  obtain ⟨zs, zr, zv, zf, zt⟩ := z
                  simp only at q0 q1 q2 q3 q4 hg1
                  obtain ⟨y0, y1, y2, y3, y4⟩ := five (blk_bl hX.out hbq2)
                  have EQ1 := fun w => EQ.out zs zr zv zf zt xs xr xv xf nx w
                  obtain ⟨eb, heb⟩ : ∃ z_, ((zs == xs && (zr == xr && (zv == xv && (zf == xf && zt == nx))))) = z_ := ⟨_, rfl⟩
                  rw [heb] at hg1
                  simp only [heb] at EQ1
                  obtain ⟨gv, hgv⟩ : ∃ z_, (decide ((⟨xs, xr, xv, xf, nx⟩ : Crt) ∈ G.take k)) = z_ := ⟨_, rfl⟩
                  rw [hgv] at hg1
                  rw [hgv]
                  replace hg1 := Lib.hid hg1
                  replace hbq2 := Lib.hid hbq2
                  clear q hz hb1 heb hgv hbt
                  cases gv with
                  | true =>
                    go_wp2_with fail
                    go_quiet (fail)
                    go_wp2_with fail
                    go_roundw
                    case rel => exact ⟨k + 1, by omega, by go_num, by rw [hg1.out]; rfl, hbq2.out.drn _⟩
                    case measure => simp [intOf] <;> omega
                  | false =>
                    go_wp2_with fail
                    go_quiet (fail)
                    go_wp2_with fail
                    go_roundw
                    case rel => exact ⟨k + 1, by omega, by go_num, by rw [hg1.out]; rfl, hbq2.out.drn _⟩
                    case measure => simp [intOf] <;> omega
                · obtain rfl : k = N := by omega
                  rw [hall.out]
                  obtain ⟨y0, y1, y2, y3, y4⟩ := five (blk_bl hX.out hbq2)
                  by_cases hc : (⟨xs, xr, xv, xf, nx⟩ : Crt) ∈ G
                  · rw [decide_eq_true hc]
                    replace hbt := Lib.hid hbt
                    clear hc
                    go_wp2_with fail
                    refine (LV.out _).mono ?_
                    rintro e w9 ⟨rfl, hb9⟩
                    have hbf := hb2.out.tr (hbt.out.tr hb9)
                    replace hbf := Lib.hid hbf
                    go_wp2_with fail
                    go_ret
                    exact ⟨rfl, hbf.out⟩
                  · rw [decide_eq_false hc]
                    have CX1 := CX.out _ hbt
                    rw [hnt.out hc] at CX1
                    replace hbt := Lib.hid hbt
                    replace CX1 := Lib.hid CX1
                    clear hc
                    go_wp2_with fail
                    refine CX1.out.mono ?_
                    rintro e w8 ⟨rfl, hb8⟩
                    go_wp2_with fail
                    refine (LV.out _).mono ?_
                    rintro e w9 ⟨rfl, hb9⟩
                    have hbf := hb2.out.tr ((hbt.out.tr hb8).tr hb9)
                    replace hbf := Lib.hid hbf
                    go_wp2_with fail
                    go_ret
                    exact ⟨rfl, hbf.out⟩
      · rw [decide_eq_false hc]
        have CK1 := CK.out _ hbr
        rw [hnot.out hc] at CK1
        replace hbr := Lib.hid hbr
        replace CK1 := Lib.hid CK1
        clear hc
        go_wp2_with fail
        first | with_reducible refine (CK1.out).mono ?_ | refine (CK1.out).mono ?_
        rintro e wq ⟨rfl, hbq3⟩
        have hbr := hbr.out.tr hbq3
        clear y0 y1 y2 y3 y4
        replace hbr := Lib.hid hbr
        by_cases hN0 : N = 0
        · subst hN0
          go_wp2_with fail
          refine (LV.out _).mono ?_
          rintro e w9 ⟨rfl, hb9⟩
          have hbf := hb2.out.tr (hbr.out.tr hb9)
          replace hbf := Lib.hid hbf
          go_wp2_with fail
          go_ret
          exact ⟨rfl, hbf.out⟩
        · have n1 : ((N : Int) == 0) = false := beq_eq_false_iff_ne.2 (by omega)
          by_cases hb0 : by_ = 0
          · subst hb0
            go_wp2_with fail
            refine (LV.out _).mono ?_
            rintro e w9 ⟨rfl, hb9⟩
            have hbf := hb2.out.tr (hbr.out.tr hb9)
            replace hbf := Lib.hid hbf
            go_wp2_with fail
            go_ret
            exact ⟨rfl, hbf.out⟩
          · have n2 : (by_ == 0) = false := beq_eq_false_iff_ne.2 hb0
            have A01 := A0.out wq N (by omega) (by omega)
            have r0 := around_lo wh N (by omega); have r1 := around_hi wh N (by omega)
            obtain ⟨q', hq'⟩ : ∃ z_, (around wh N) = z_ := ⟨_, rfl⟩
            rw [hq'] at A01 r0 r1
            obtain ⟨q, rfl⟩ : ∃ q : Nat, (q : Int) = q' := ⟨q'.toNat, by omega⟩
            obtain ⟨rfl, qc⟩ := (hRG.out.bl hbr.out).c0 cB_len c0 q (by rw [hN.out]; omega)
            have q0 := qc 0 (by decide); have q1 := qc 1 (by decide); have q2 := qc 2 (by decide); have q3 := qc 3 (by decide); have q4 := qc 4 (by decide)
            simp only [Nat.add_zero, List.getElem?_cons_zero, List.getElem?_cons_succ] at q0 q1 q2 q3 q4
            have hxo := (hok2.out _ (getD_mem G q c0 (by rw [hN.out]; omega)))
            obtain ⟨x, hx⟩ : ∃ z_, (G.getD q c0) = z_ := ⟨_, rfl⟩
            rw [hx] at q0 q1 q2 q3 q4 hxo
            obtain ⟨xs, xr, xv, xf, xt⟩ := x
            obtain ⟨⟨o1, o2⟩, ⟨o3, o4⟩⟩ := hxo
            simp only at q0 q1 q2 q3 q4 o1 o2 o3 o4
            replace A01 := Lib.hid A01
            clear qc hx hq' hN0 hb0
            go_wp2_with fail
            refine A01.out.mono ?_
            rintro e w' ⟨rfl, rfl⟩
            go_wp2_with fail
            refine (A1.out _).mono ?_
            rintro e w' ⟨rfl, rfl⟩
            clear q0 q1 q2 q3 q4 A01
            have hfc : ff = 0 ∨ ff = 1 ∨ ff = 2 ∨ ff = 3 ∨ ff = 4 := by omega
            rcases hfc with rfl | rfl | rfl | rfl | rfl
            · have hw := wrap_range (xs + by_)
              obtain ⟨nx, hnx⟩ : ∃ z_, (IntKind.i64.wrap (xs + by_)) = z_ := ⟨_, rfl⟩
              rw [hnx] at hw
              have hX := heap_alloc_new wq (.cells #[I nx, I xr, I xv, I xf, I xt] 24)
              have hbX := hbr.out.al (.cells #[I nx, I xr, I xv, I xf, I xt] 24)
              have hgm := fun k hk => mem_take_succ G ⟨nx, xr, xv, xf, xt⟩ k hk
              have hbm := fun k => crt_beq (G.getD k c0) ⟨nx, xr, xv, xf, xt⟩
              have hnt := fun h => chk_not (U := U) (S := S) (v := xv) (now := t) (G := G) (c := ⟨nx, xr, xv, xf, xt⟩) h
              have hoX : okCrt ⟨nx, xr, xv, xf, xt⟩ := ⟨⟨by simp only; omega, by simp only; omega⟩, ⟨by simp only; omega, by simp only; omega⟩⟩
              have CX := fun w' (hb : Bl w2 w') => check_any (hC.out.bl hb) (by omega) hl3 ⟨nx, xr, xv, xf, xt⟩ xv t hoX
              have hzm : decide ((⟨nx, xr, xv, xf, xt⟩ : Crt) ∈ G.take 0) = false := by simp
              obtain ⟨yx, hyx⟩ : ∃ z_, ((wq).heap.size) = z_ := ⟨_, rfl⟩
              rw [hyx] at hX
              simp only [hN.out] at hgm
              replace hX := Lib.hid hX
              replace hbX := Lib.hid hbX
              replace hgm := Lib.hid hgm
              replace hbm := Lib.hid hbm
              replace hnt := Lib.hid hnt
              replace CX := Lib.hid CX
              replace hzm := Lib.hid hzm
              go_wp2_with fail
              go_loopw [17, 18] (fun gv i wz => ∃ k : Nat, k ≤ N ∧ i = I k ∧ gv = .bool (decide ((⟨nx, xr, xv, xf, xt⟩ : Crt) ∈ G.take k)) ∧ Bl ((wq).alloc (.cells #[I nx, I xr, I xv, I xf, I xt] 24)) wz) (fun _ i _ => N - (intOf i).toNat)
              case atStart => exact ⟨0, by omega, rfl, by rw [hzm.out], Bl.rfl' _⟩
              case round =>
                obtain ⟨k, hk, rfl, rfl, hbq2⟩ := hrel
                have hbt := hbX.out.tr hbq2
                by_cases hlt : k < N
                · obtain ⟨_, q⟩ := (hRG.out.bl hbt).c0 cB_len c0 k (by rw [hN.out]; exact hlt)
                  have q0 := q 0 (by decide); have q1 := q 1 (by decide); have q2 := q 2 (by decide); have q3 := q 3 (by decide); have q4 := q 4 (by decide)
                  simp only [Nat.add_zero, List.getElem?_cons_zero, List.getElem?_cons_succ] at q0 q1 q2 q3 q4
                  have hg1 := hgm.out k hlt
                  have hb1 := hbm.out k
                  obtain ⟨z, hz⟩ : ∃ z_, (G.getD k c0) = z_ := ⟨_, rfl⟩
                  rw [hz] at q0 q1 q2 q3 q4 hg1 hb1
                  rw [← hb1] at hg1
                  obtain ⟨zs, zr, zv, zf, zt⟩ := z
                  simp only at q0 q1 q2 q3 q4 hg1
                  obtain ⟨y0, y1, y2, y3, y4⟩ := five (blk_bl hX.out hbq2)
                  have EQ1 := fun w => EQ.out zs zr zv zf zt nx xr xv xf xt w
                  obtain ⟨eb, heb⟩ : ∃ z_, ((zs == nx && (zr == xr && (zv == xv && (zf == xf && zt == xt))))) = z_ := ⟨_, rfl⟩
                  rw [heb] at hg1
                  simp only [heb] at EQ1
                  obtain ⟨gv, hgv⟩ : ∃ z_, (decide ((⟨nx, xr, xv, xf, xt⟩ : Crt) ∈ G.take k)) = z_ := ⟨_, rfl⟩
                  rw [hgv] at hg1
                  rw [hgv]
                  replace hg1 := Lib.hid hg1
                  replace hbq2 := Lib.hid hbq2
                  clear q hz hb1 heb hgv hbt
                  cases gv with
                  | true =>
                    go_wp2_with fail
                    go_quiet (fail)
                    go_wp2_with fail
                    go_roundw
                    case rel => exact ⟨k + 1, by omega, by go_num, by rw [hg1.out]; rfl, hbq2.out.drn _⟩
                    case measure => simp [intOf] <;> omega
                  | false =>
                    go_wp2_with fail
                    go_quiet (fail)
                    go_wp2_with fail
                    go_roundw
                    case rel => exact ⟨k + 1, by omega, by go_num, by rw [hg1.out]; rfl, hbq2.out.drn _⟩
                    case measure => simp [intOf] <;> omega
                · obtain rfl : k = N := by omega
                  rw [hall.out]
                  obtain ⟨y0, y1, y2, y3, y4⟩ := five (blk_bl hX.out hbq2)
                  by_cases hc : (⟨nx, xr, xv, xf, xt⟩ : Crt) ∈ G
                  · rw [decide_eq_true hc]
                    replace hbt := Lib.hid hbt
                    clear hc
                    go_wp2_with fail
                    refine (LV.out _).mono ?_
                    rintro e w9 ⟨rfl, hb9⟩
                    have hbf := hb2.out.tr (hbt.out.tr hb9)
                    replace hbf := Lib.hid hbf
                    go_wp2_with fail
                    go_ret
                    exact ⟨rfl, hbf.out⟩
                  · rw [decide_eq_false hc]
                    have CX1 := CX.out _ hbt
                    rw [hnt.out hc] at CX1
                    replace hbt := Lib.hid hbt
                    replace CX1 := Lib.hid CX1
                    clear hc
                    go_wp2_with fail
                    refine CX1.out.mono ?_
                    rintro e w8 ⟨rfl, hb8⟩
                    go_wp2_with fail
                    refine (LV.out _).mono ?_
                    rintro e w9 ⟨rfl, hb9⟩
                    have hbf := hb2.out.tr ((hbt.out.tr hb8).tr hb9)
                    replace hbf := Lib.hid hbf
                    go_wp2_with fail
                    go_ret
                    exact ⟨rfl, hbf.out⟩
            · have hw := wrap_range (xr + by_)
              obtain ⟨nx, hnx⟩ : ∃ z_, (IntKind.i64.wrap (xr + by_)) = z_ := ⟨_, rfl⟩
              rw [hnx] at hw
              have hX := heap_alloc_new wq (.cells #[I xs, I nx, I xv, I xf, I xt] 24)
              have hbX := hbr.out.al (.cells #[I xs, I nx, I xv, I xf, I xt] 24)
              have hgm := fun k hk => mem_take_succ G ⟨xs, nx, xv, xf, xt⟩ k hk
              have hbm := fun k => crt_beq (G.getD k c0) ⟨xs, nx, xv, xf, xt⟩
              have hnt := fun h => chk_not (U := U) (S := S) (v := xv) (now := t) (G := G) (c := ⟨xs, nx, xv, xf, xt⟩) h
              have hoX : okCrt ⟨xs, nx, xv, xf, xt⟩ := ⟨⟨by simp only; omega, by simp only; omega⟩, ⟨by simp only; omega, by simp only; omega⟩⟩
              have CX := fun w' (hb : Bl w2 w') => check_any (hC.out.bl hb) (by omega) hl3 ⟨xs, nx, xv, xf, xt⟩ xv t hoX
              have hzm : decide ((⟨xs, nx, xv, xf, xt⟩ : Crt) ∈ G.take 0) = false := by simp
              obtain ⟨yx, hyx⟩ : ∃ z_, ((wq).heap.size) = z_ := ⟨_, rfl⟩
              rw [hyx] at hX
              simp only [hN.out] at hgm
              replace hX := Lib.hid hX
              replace hbX := Lib.hid hbX
              replace hgm := Lib.hid hgm
              replace hbm := Lib.hid hbm
              replace hnt := Lib.hid hnt
              replace CX := Lib.hid CX
              replace hzm := Lib.hid hzm
              go_wp2_with fail
              go_loopw [17, 18] (fun gv i wz => ∃ k : Nat, k ≤ N ∧ i = I k ∧ gv = .bool (decide ((⟨xs, nx, xv, xf, xt⟩ : Crt) ∈ G.take k)) ∧ Bl ((wq).alloc (.cells #[I xs, I nx, I xv, I xf, I xt] 24)) wz) (fun _ i _ => N - (intOf i).toNat)
              case atStart => exact ⟨0, by omega, rfl, by rw [hzm.out], Bl.rfl' _⟩
              case round =>
                obtain ⟨k, hk, rfl, rfl, hbq2⟩ := hrel
                have hbt := hbX.out.tr hbq2
                by_cases hlt : k < N
                · obtain ⟨_, q⟩ := (hRG.out.bl hbt).c0 cB_len c0 k (by rw [hN.out]; exact hlt)
                  have q0 := q 0 (by decide); have q1 := q 1 (by decide); have q2 := q 2 (by decide); have q3 := q 3 (by decide); have q4 := q 4 (by decide)
                  simp only [Nat.add_zero, List.getElem?_cons_zero, List.getElem?_cons_succ] at q0 q1 q2 q3 q4
                  have hg1 := hgm.out k hlt
                  have hb1 := hbm.out k
                  obtain ⟨z, hz⟩ : ∃ z_, (G.getD k c0) = z_ := ⟨_, rfl⟩
                  rw [hz] at q0 q1 q2 q3 q4 hg1 hb1
                  rw [← hb1] at hg1
                  obtain ⟨zs, zr, zv, zf, zt⟩ := z
                  simp only at q0 q1 q2 q3 q4 hg1
                  obtain ⟨y0, y1, y2, y3, y4⟩ := five (blk_bl hX.out hbq2)
                  have EQ1 := fun w => EQ.out zs zr zv zf zt xs nx xv xf xt w
                  obtain ⟨eb, heb⟩ : ∃ z_, ((zs == xs && (zr == nx && (zv == xv && (zf == xf && zt == xt))))) = z_ := ⟨_, rfl⟩
                  rw [heb] at hg1
                  simp only [heb] at EQ1
                  obtain ⟨gv, hgv⟩ : ∃ z_, (decide ((⟨xs, nx, xv, xf, xt⟩ : Crt) ∈ G.take k)) = z_ := ⟨_, rfl⟩
                  rw [hgv] at hg1
                  rw [hgv]
                  replace hg1 := Lib.hid hg1
                  replace hbq2 := Lib.hid hbq2
                  clear q hz hb1 heb hgv hbt
                  cases gv with
                  | true =>
                    go_wp2_with fail
                    go_quiet (fail)
                    go_wp2_with fail
                    go_roundw
                    case rel => exact ⟨k + 1, by omega, by go_num, by rw [hg1.out]; rfl, hbq2.out.drn _⟩
                    case measure => simp [intOf] <;> omega
                  | false =>
                    go_wp2_with fail
                    go_quiet (fail)
                    go_wp2_with fail
                    go_roundw
                    case rel => exact ⟨k + 1, by omega, by go_num, by rw [hg1.out]; rfl, hbq2.out.drn _⟩
                    case measure => simp [intOf] <;> omega
                · obtain rfl : k = N := by omega
                  rw [hall.out]
                  obtain ⟨y0, y1, y2, y3, y4⟩ := five (blk_bl hX.out hbq2)
                  by_cases hc : (⟨xs, nx, xv, xf, xt⟩ : Crt) ∈ G
                  · rw [decide_eq_true hc]
                    replace hbt := Lib.hid hbt
                    clear hc
                    go_wp2_with fail
                    refine (LV.out _).mono ?_
                    rintro e w9 ⟨rfl, hb9⟩
                    have hbf := hb2.out.tr (hbt.out.tr hb9)
                    replace hbf := Lib.hid hbf
                    go_wp2_with fail
                    go_ret
                    exact ⟨rfl, hbf.out⟩
                  · rw [decide_eq_false hc]
                    have CX1 := CX.out _ hbt
                    rw [hnt.out hc] at CX1
                    replace hbt := Lib.hid hbt
                    replace CX1 := Lib.hid CX1
                    clear hc
                    go_wp2_with fail
                    refine CX1.out.mono ?_
                    rintro e w8 ⟨rfl, hb8⟩
                    go_wp2_with fail
                    refine (LV.out _).mono ?_
                    rintro e w9 ⟨rfl, hb9⟩
                    have hbf := hb2.out.tr ((hbt.out.tr hb8).tr hb9)
                    replace hbf := Lib.hid hbf
                    go_wp2_with fail
                    go_ret
                    exact ⟨rfl, hbf.out⟩
            · obtain ⟨nx, hnx⟩ : ∃ z_, (IntKind.i64.wrap (xv + by_)) = z_ := ⟨_, rfl⟩
              have hX := heap_alloc_new wq (.cells #[I xs, I xr, I nx, I xf, I xt] 24)
              have hbX := hbr.out.al (.cells #[I xs, I xr, I nx, I xf, I xt] 24)
              have hgm := fun k hk => mem_take_succ G ⟨xs, xr, nx, xf, xt⟩ k hk
              have hbm := fun k => crt_beq (G.getD k c0) ⟨xs, xr, nx, xf, xt⟩
              have hnt := fun h => chk_not (U := U) (S := S) (v := nx) (now := t) (G := G) (c := ⟨xs, xr, nx, xf, xt⟩) h
              have hoX : okCrt ⟨xs, xr, nx, xf, xt⟩ := ⟨⟨by simp only; omega, by simp only; omega⟩, ⟨by simp only; omega, by simp only; omega⟩⟩
              have CX := fun w' (hb : Bl w2 w') => check_any (hC.out.bl hb) (by omega) hl3 ⟨xs, xr, nx, xf, xt⟩ nx t hoX
              have hzm : decide ((⟨xs, xr, nx, xf, xt⟩ : Crt) ∈ G.take 0) = false := by simp
              obtain ⟨yx, hyx⟩ : ∃ z_, ((wq).heap.size) = z_ := ⟨_, rfl⟩
              rw [hyx] at hX
              simp only [hN.out] at hgm
              replace hX := Lib.hid hX
              replace hbX := Lib.hid hbX
              replace hgm := Lib.hid hgm
              replace hbm := Lib.hid hbm
              replace hnt := Lib.hid hnt
              replace CX := Lib.hid CX
              replace hzm := Lib.hid hzm
              go_wp2_with fail
              go_loopw [17, 18] (fun gv i wz => ∃ k : Nat, k ≤ N ∧ i = I k ∧ gv = .bool (decide ((⟨xs, xr, nx, xf, xt⟩ : Crt) ∈ G.take k)) ∧ Bl ((wq).alloc (.cells #[I xs, I xr, I nx, I xf, I xt] 24)) wz) (fun _ i _ => N - (intOf i).toNat)
              case atStart => exact ⟨0, by omega, rfl, by rw [hzm.out], Bl.rfl' _⟩
              case round =>
                obtain ⟨k, hk, rfl, rfl, hbq2⟩ := hrel
                have hbt := hbX.out.tr hbq2
                by_cases hlt : k < N
                · obtain ⟨_, q⟩ := (hRG.out.bl hbt).c0 cB_len c0 k (by rw [hN.out]; exact hlt)
                  have q0 := q 0 (by decide); have q1 := q 1 (by decide); have q2 := q 2 (by decide); have q3 := q 3 (by decide); have q4 := q 4 (by decide)
                  simp only [Nat.add_zero, List.getElem?_cons_zero, List.getElem?_cons_succ] at q0 q1 q2 q3 q4
                  have hg1 := hgm.out k hlt
                  have hb1 := hbm.out k
                  obtain ⟨z, hz⟩ : ∃ z_, (G.getD k c0) = z_ := ⟨_, rfl⟩
                  rw [hz] at q0 q1 q2 q3 q4 hg1 hb1
                  rw [← hb1] at hg1
                  obtain ⟨zs, zr, zv, zf, zt⟩ := z
                  simp only at q0 q1 q2 q3 q4 hg1
                  obtain ⟨y0, y1, y2, y3, y4⟩ := five (blk_bl hX.out hbq2)
                  have EQ1 := fun w => EQ.out zs zr zv zf zt xs xr nx xf xt w
                  obtain ⟨eb, heb⟩ : ∃ z_, ((zs == xs && (zr == xr && (zv == nx && (zf == xf && zt == xt))))) = z_ := ⟨_, rfl⟩
                  rw [heb] at hg1
                  simp only [heb] at EQ1
                  obtain ⟨gv, hgv⟩ : ∃ z_, (decide ((⟨xs, xr, nx, xf, xt⟩ : Crt) ∈ G.take k)) = z_ := ⟨_, rfl⟩
                  rw [hgv] at hg1
                  rw [hgv]
                  replace hg1 := Lib.hid hg1
                  replace hbq2 := Lib.hid hbq2
                  clear q hz hb1 heb hgv hbt
                  cases gv with
                  | true =>
                    go_wp2_with fail
                    go_quiet (fail)
                    go_wp2_with fail
                    go_roundw
                    case rel => exact ⟨k + 1, by omega, by go_num, by rw [hg1.out]; rfl, hbq2.out.drn _⟩
                    case measure => simp [intOf] <;> omega
                  | false =>
                    go_wp2_with fail
                    go_quiet (fail)
                    go_wp2_with fail
                    go_roundw
                    case rel => exact ⟨k + 1, by omega, by go_num, by rw [hg1.out]; rfl, hbq2.out.drn _⟩
                    case measure => simp [intOf] <;> omega
                · obtain rfl : k = N := by omega
                  rw [hall.out]
                  obtain ⟨y0, y1, y2, y3, y4⟩ := five (blk_bl hX.out hbq2)
                  by_cases hc : (⟨xs, xr, nx, xf, xt⟩ : Crt) ∈ G
                  · rw [decide_eq_true hc]
                    replace hbt := Lib.hid hbt
                    clear hc
                    go_wp2_with fail
                    refine (LV.out _).mono ?_
                    rintro e w9 ⟨rfl, hb9⟩
                    have hbf := hb2.out.tr (hbt.out.tr hb9)
                    replace hbf := Lib.hid hbf
                    go_wp2_with fail
                    go_ret
                    exact ⟨rfl, hbf.out⟩
                  · rw [decide_eq_false hc]
                    have CX1 := CX.out _ hbt
                    rw [hnt.out hc] at CX1
                    replace hbt := Lib.hid hbt
                    replace CX1 := Lib.hid CX1
                    clear hc
                    go_wp2_with fail
                    refine CX1.out.mono ?_
                    rintro e w8 ⟨rfl, hb8⟩
                    go_wp2_with fail
                    refine (LV.out _).mono ?_
                    rintro e w9 ⟨rfl, hb9⟩
                    have hbf := hb2.out.tr ((hbt.out.tr hb8).tr hb9)
                    replace hbf := Lib.hid hbf
                    go_wp2_with fail
                    go_ret
                    exact ⟨rfl, hbf.out⟩
            · obtain ⟨nx, hnx⟩ : ∃ z_, (IntKind.i64.wrap (xf + by_)) = z_ := ⟨_, rfl⟩
              have hX := heap_alloc_new wq (.cells #[I xs, I xr, I xv, I nx, I xt] 24)
              have hbX := hbr.out.al (.cells #[I xs, I xr, I xv, I nx, I xt] 24)
              have hgm := fun k hk => mem_take_succ G ⟨xs, xr, xv, nx, xt⟩ k hk
              have hbm := fun k => crt_beq (G.getD k c0) ⟨xs, xr, xv, nx, xt⟩
              have hnt := fun h => chk_not (U := U) (S := S) (v := xv) (now := t) (G := G) (c := ⟨xs, xr, xv, nx, xt⟩) h
              have hoX : okCrt ⟨xs, xr, xv, nx, xt⟩ := ⟨⟨by simp only; omega, by simp only; omega⟩, ⟨by simp only; omega, by simp only; omega⟩⟩
              have CX := fun w' (hb : Bl w2 w') => check_any (hC.out.bl hb) (by omega) hl3 ⟨xs, xr, xv, nx, xt⟩ xv t hoX
              have hzm : decide ((⟨xs, xr, xv, nx, xt⟩ : Crt) ∈ G.take 0) = false := by simp
              obtain ⟨yx, hyx⟩ : ∃ z_, ((wq).heap.size) = z_ := ⟨_, rfl⟩
              rw [hyx] at hX
              simp only [hN.out] at hgm
              replace hX := Lib.hid hX
              replace hbX := Lib.hid hbX
              replace hgm := Lib.hid hgm
              replace hbm := Lib.hid hbm
              replace hnt := Lib.hid hnt
              replace CX := Lib.hid CX
              replace hzm := Lib.hid hzm
              go_wp2_with fail
              go_loopw [17, 18] (fun gv i wz => ∃ k : Nat, k ≤ N ∧ i = I k ∧ gv = .bool (decide ((⟨xs, xr, xv, nx, xt⟩ : Crt) ∈ G.take k)) ∧ Bl ((wq).alloc (.cells #[I xs, I xr, I xv, I nx, I xt] 24)) wz) (fun _ i _ => N - (intOf i).toNat)
              case atStart => exact ⟨0, by omega, rfl, by rw [hzm.out], Bl.rfl' _⟩
              case round =>
                obtain ⟨k, hk, rfl, rfl, hbq2⟩ := hrel
                have hbt := hbX.out.tr hbq2
                by_cases hlt : k < N
                · obtain ⟨_, q⟩ := (hRG.out.bl hbt).c0 cB_len c0 k (by rw [hN.out]; exact hlt)
                  have q0 := q 0 (by decide); have q1 := q 1 (by decide); have q2 := q 2 (by decide); have q3 := q 3 (by decide); have q4 := q 4 (by decide)
                  simp only [Nat.add_zero, List.getElem?_cons_zero, List.getElem?_cons_succ] at q0 q1 q2 q3 q4
                  have hg1 := hgm.out k hlt
                  have hb1 := hbm.out k
                  obtain ⟨z, hz⟩ : ∃ z_, (G.getD k c0) = z_ := ⟨_, rfl⟩
                  rw [hz] at q0 q1 q2 q3 q4 hg1 hb1
                  rw [← hb1] at hg1
                  obtain ⟨zs, zr, zv, zf, zt⟩ := z
                  simp only at q0 q1 q2 q3 q4 hg1
                  obtain ⟨y0, y1, y2, y3, y4⟩ := five (blk_bl hX.out hbq2)
                  have EQ1 := fun w => EQ.out zs zr zv zf zt xs xr xv nx xt w
                  obtain ⟨eb, heb⟩ : ∃ z_, ((zs == xs && (zr == xr && (zv == xv && (zf == nx && zt == xt))))) = z_ := ⟨_, rfl⟩
                  rw [heb] at hg1
                  simp only [heb] at EQ1
                  obtain ⟨gv, hgv⟩ : ∃ z_, (decide ((⟨xs, xr, xv, nx, xt⟩ : Crt) ∈ G.take k)) = z_ := ⟨_, rfl⟩
                  rw [hgv] at hg1
                  rw [hgv]
                  replace hg1 := Lib.hid hg1
                  replace hbq2 := Lib.hid hbq2
                  clear q hz hb1 heb hgv hbt
                  cases gv with
                  | true =>
                    go_wp2_with fail
                    go_quiet (fail)
                    go_wp2_with fail
                    go_roundw
                    case rel => exact ⟨k + 1, by omega, by go_num, by rw [hg1.out]; rfl, hbq2.out.drn _⟩
                    case measure => simp [intOf] <;> omega
                  | false =>
                    go_wp2_with fail
                    go_quiet (fail)
                    go_wp2_with fail
                    go_roundw
                    case rel => exact ⟨k + 1, by omega, by go_num, by rw [hg1.out]; rfl, hbq2.out.drn _⟩
                    case measure => simp [intOf] <;> omega
                · obtain rfl : k = N := by omega
                  rw [hall.out]
                  obtain ⟨y0, y1, y2, y3, y4⟩ := five (blk_bl hX.out hbq2)
                  by_cases hc : (⟨xs, xr, xv, nx, xt⟩ : Crt) ∈ G
                  · rw [decide_eq_true hc]
                    replace hbt := Lib.hid hbt
                    clear hc
                    go_wp2_with fail
                    refine (LV.out _).mono ?_
                    rintro e w9 ⟨rfl, hb9⟩
                    have hbf := hb2.out.tr (hbt.out.tr hb9)
                    replace hbf := Lib.hid hbf
                    go_wp2_with fail
                    go_ret
                    exact ⟨rfl, hbf.out⟩
                  · rw [decide_eq_false hc]
                    have CX1 := CX.out _ hbt
                    rw [hnt.out hc] at CX1
                    replace hbt := Lib.hid hbt
                    replace CX1 := Lib.hid CX1
                    clear hc
                    go_wp2_with fail
                    refine CX1.out.mono ?_
                    rintro e w8 ⟨rfl, hb8⟩
                    go_wp2_with fail
                    refine (LV.out _).mono ?_
                    rintro e w9 ⟨rfl, hb9⟩
                    have hbf := hb2.out.tr ((hbt.out.tr hb8).tr hb9)
                    replace hbf := Lib.hid hbf
                    go_wp2_with fail
                    go_ret
                    exact ⟨rfl, hbf.out⟩
            · obtain ⟨nx, hnx⟩ : ∃ z_, (IntKind.i64.wrap (xt + by_)) = z_ := ⟨_, rfl⟩
              have hX := heap_alloc_new wq (.cells #[I xs, I xr, I xv, I xf, I nx] 24)
              have hbX := hbr.out.al (.cells #[I xs, I xr, I xv, I xf, I nx] 24)
              have hgm := fun k hk => mem_take_succ G ⟨xs, xr, xv, xf, nx⟩ k hk
              have hbm := fun k => crt_beq (G.getD k c0) ⟨xs, xr, xv, xf, nx⟩
              have hnt := fun h => chk_not (U := U) (S := S) (v := xv) (now := t) (G := G) (c := ⟨xs, xr, xv, xf, nx⟩) h
              have hoX : okCrt ⟨xs, xr, xv, xf, nx⟩ := ⟨⟨by simp only; omega, by simp only; omega⟩, ⟨by simp only; omega, by simp only; omega⟩⟩
              have CX := fun w' (hb : Bl w2 w') => check_any (hC.out.bl hb) (by omega) hl3 ⟨xs, xr, xv, xf, nx⟩ xv t hoX
              have hzm : decide ((⟨xs, xr, xv, xf, nx⟩ : Crt) ∈ G.take 0) = false := by simp
              obtain ⟨yx, hyx⟩ : ∃ z_, ((wq).heap.size) = z_ := ⟨_, rfl⟩
              rw [hyx] at hX
              simp only [hN.out] at hgm
              replace hX := Lib.hid hX
              replace hbX := Lib.hid hbX
              replace hgm := Lib.hid hgm
              replace hbm := Lib.hid hbm
              replace hnt := Lib.hid hnt
              replace CX := Lib.hid CX
              replace hzm := Lib.hid hzm
              go_wp2_with fail
              go_loopw [17, 18] (fun gv i wz => ∃ k : Nat, k ≤ N ∧ i = I k ∧ gv = .bool (decide ((⟨xs, xr, xv, xf, nx⟩ : Crt) ∈ G.take k)) ∧ Bl ((wq).alloc (.cells #[I xs, I xr, I xv, I xf, I nx] 24)) wz) (fun _ i _ => N - (intOf i).toNat)
              case atStart => exact ⟨0, by omega, rfl, by rw [hzm.out], Bl.rfl' _⟩
              case round =>
                obtain ⟨k, hk, rfl, rfl, hbq2⟩ := hrel
                have hbt := hbX.out.tr hbq2
                by_cases hlt : k < N
                · obtain ⟨_, q⟩ := (hRG.out.bl hbt).c0 cB_len c0 k (by rw [hN.out]; exact hlt)
                  have q0 := q 0 (by decide); have q1 := q 1 (by decide); have q2 := q 2 (by decide); have q3 := q 3 (by decide); have q4 := q 4 (by decide)
                  simp only [Nat.add_zero, List.getElem?_cons_zero, List.getElem?_cons_succ] at q0 q1 q2 q3 q4
                  have hg1 := hgm.out k hlt
                  have hb1 := hbm.out k
                  obtain ⟨z, hz⟩ : ∃ z_, (G.getD k c0) = z_ := ⟨_, rfl⟩
                  rw [hz] at q0 q1 q2 q3 q4 hg1 hb1
                  rw [← hb1] at hg1
                  obtain ⟨zs, zr, zv, zf, zt⟩ := z
                  simp only at q0 q1 q2 q3 q4 hg1
                  obtain ⟨y0, y1, y2, y3, y4⟩ := five (blk_bl hX.out hbq2)
                  have EQ1 := fun w => EQ.out zs zr zv zf zt xs xr xv xf nx w
                  obtain ⟨eb, heb⟩ : ∃ z_, ((zs == xs && (zr == xr && (zv == xv && (zf == xf && zt == nx))))) = z_ := ⟨_, rfl⟩
                  rw [heb] at hg1
                  simp only [heb] at EQ1
                  obtain ⟨gv, hgv⟩ : ∃ z_, (decide ((⟨xs, xr, xv, xf, nx⟩ : Crt) ∈ G.take k)) = z_ := ⟨_, rfl⟩
                  rw [hgv] at hg1
                  rw [hgv]
                  replace hg1 := Lib.hid hg1
                  replace hbq2 := Lib.hid hbq2
                  clear q hz hb1 heb hgv hbt
                  cases gv with
                  | true =>
                    go_wp2_with fail
                    go_quiet (fail)
                    go_wp2_with fail
                    go_roundw
                    case rel => exact ⟨k + 1, by omega, by go_num, by rw [hg1.out]; rfl, hbq2.out.drn _⟩
                    case measure => simp [intOf] <;> omega
                  | false =>
                    go_wp2_with fail
                    go_quiet (fail)
                    go_wp2_with fail
                    go_roundw
                    case rel => exact ⟨k + 1, by omega, by go_num, by rw [hg1.out]; rfl, hbq2.out.drn _⟩
                    case measure => simp [intOf] <;> omega
                · obtain rfl : k = N := by omega
                  rw [hall.out]
                  obtain ⟨y0, y1, y2, y3, y4⟩ := five (blk_bl hX.out hbq2)
                  by_cases hc : (⟨xs, xr, xv, xf, nx⟩ : Crt) ∈ G
                  · rw [decide_eq_true hc]
                    replace hbt := Lib.hid hbt
                    clear hc
                    go_wp2_with fail
                    refine (LV.out _).mono ?_
                    rintro e w9 ⟨rfl, hb9⟩
                    have hbf := hb2.out.tr (hbt.out.tr hb9)
                    replace hbf := Lib.hid hbf
                    go_wp2_with fail
                    go_ret
                    exact ⟨rfl, hbf.out⟩
                  · rw [decide_eq_false hc]
                    have CX1 := CX.out _ hbt
                    rw [hnt.out hc] at CX1
                    replace hbt := Lib.hid hbt
                    replace CX1 := Lib.hid CX1
                    clear hc
                    go_wp2_with fail
                    refine CX1.out.mono ?_
                    rintro e w8 ⟨rfl, hb8⟩
                    go_wp2_with fail
                    refine (LV.out _).mono ?_
                    rintro e w9 ⟨rfl, hb9⟩
                    have hbf := hb2.out.tr ((hbt.out.tr hb8).tr hb9)
                    replace hbf := Lib.hid hbf
                    go_wp2_with fail
                    go_ret
                    exact ⟨rfl, hbf.out⟩
end Go.Proofs.Ytajnhjcinpdfhaa.certForged
