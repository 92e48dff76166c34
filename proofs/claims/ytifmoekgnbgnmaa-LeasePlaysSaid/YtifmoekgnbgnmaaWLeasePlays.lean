/-
  LeasePlays is true for every input: what is leased, and admitted, is the document's. No condition.
-/
import Derived.Test.YtifmoekgnbgnmaaLeaD
namespace Go.Proofs.Ytifmoekgnbgnmaa.leasePlays
open Go.ChangeShapes Go.WideShapes Go.ChangeAt Go.RowKit
open Go.Proofs.Ytifmoekgnbgnmaa.lease
set_option linter.unusedVariables false
set_option linter.unusedSimpArgs false

structure Pl (x pL pC xa xb g : Nat) (w0 : World) : Prop where
  o0 : w0.heap.size ≤ x
  o1 : x < pL
  o2 : pL < pC
  o3 : pC < xa
  o4 : xa < xb
  o5 : xb < g
structure St (w0 : World) (L W S : Int) (x pL pC xa xb g : Nat) (a : Option Addr) (A : List AC) (w : World) (kL nL kC nC ka na kb nb : Int) : Prop where
  hx : w.heap[x]? = some (.cells #[I L, I W, I S] 23 (0, 0))
  hL : LB 65 w pL L W S kL nL
  hC : LB 66 w pC L W S kC nC
  ha : w.heap[xa]? = some (.cells #[I ka, I na] 38 (0, 0))
  hb : w.heap[xb]? = some (.cells #[I kb, I nb] 38 (0, 0))
  hA : ARow w g a A
  bl : Bl w0 w
section
variable {w0 w w' : World} {L W S : Int} {x pL pC xa xb g : Nat} {a : Option Addr} {A : List AC} {kL nL kC nC ka na kb nb k n : Int}
theorem St.step (h : St w0 L W S x pL pC xa xb g a A w kL nL kC nC ka na kb nb) (hb : Bl w w') : St w0 L W S x pL pC xa xb g a A w' kL nL kC nC ka na kb nb :=
  ⟨var_bl h.hx hb, h.hL.bl hb, h.hC.bl hb, var_bl h.ha hb, var_bl h.hb hb, h.hA.bl hb, h.bl.tr hb⟩
theorem St.lim (h : St w0 L W S x pL pC xa xb g a A w kL nL kC nC ka na kb nb) (P : Pl x pL pC xa xb g w0) (hl : LB 65 w' pL L W S k n) (hg : w.grownBy w' (some pL)) : St w0 L W S x pL pC xa xb g a A w' k n kC nC ka na kb nb := by
  obtain ⟨o0, o1, o2, o3, o4, o5⟩ := P
  exact ⟨var_gby h.hx hg (by omega), hl, h.hC.gby hg (by omega), var_gby h.ha hg (by omega), var_gby h.hb hg (by omega), h.hA.gby hg (by omega), h.bl.gp hg (by omega)⟩
theorem St.cli (h : St w0 L W S x pL pC xa xb g a A w kL nL kC nC ka na kb nb) (P : Pl x pL pC xa xb g w0) (hl : LB 66 w' pC L W S k n) (hg : w.grownBy w' (some pC)) : St w0 L W S x pL pC xa xb g a A w' kL nL k n ka na kb nb := by
  obtain ⟨o0, o1, o2, o3, o4, o5⟩ := P
  exact ⟨var_gby h.hx hg (by omega), h.hL.gby hg (by omega), hl, var_gby h.ha hg (by omega), var_gby h.hb hg (by omega), h.hA.gby hg (by omega), h.bl.gp hg (by omega)⟩
theorem St.seta (h : St w0 L W S x pL pC xa xb g a A w kL nL kC nC ka na kb nb) (P : Pl x pL pC xa xb g w0) (k n : Int) : St w0 L W S x pL pC xa xb g a A ((w.setCell ⟨xa, 0, none⟩ (I k)).setCell ⟨xa, 1, none⟩ (I n)) kL nL kC nC k n kb nb := by
  obtain ⟨o0, o1, o2, o3, o4, o5⟩ := P
  have hg := gby_tr (gby_set w xa 0 (I k)) (gby_set _ xa 1 (I n))
  have := set_at 1 (I n) (set_at 0 (I k) h.ha)
  exact ⟨var_gby h.hx hg (by omega), h.hL.gby hg (by omega), h.hC.gby hg (by omega), by simpa using this, var_gby h.hb hg (by omega), h.hA.gby hg (by omega), h.bl.gp hg (by omega)⟩
theorem St.setb (h : St w0 L W S x pL pC xa xb g a A w kL nL kC nC ka na kb nb) (P : Pl x pL pC xa xb g w0) (k n : Int) : St w0 L W S x pL pC xa xb g a A ((w.setCell ⟨xb, 0, none⟩ (I k)).setCell ⟨xb, 1, none⟩ (I n)) kL nL kC nC ka na k n := by
  obtain ⟨o0, o1, o2, o3, o4, o5⟩ := P
  have hg := gby_tr (gby_set w xb 0 (I k)) (gby_set _ xb 1 (I n))
  have := set_at 1 (I n) (set_at 0 (I k) h.hb)
  exact ⟨var_gby h.hx hg (by omega), h.hL.gby hg (by omega), h.hC.gby hg (by omega), var_gby h.ha hg (by omega), by simpa using this, h.hA.gby hg (by omega), h.bl.gp hg (by omega)⟩
theorem two_cells {k n : Int} {t : TypeId} {p : Nat} (h : w.heap[p]? = some (.cells #[I k, I n] t (0, 0))) : w.cell? ⟨p, 0, none⟩ = some (I k) ∧ w.cell? ⟨p, 1, none⟩ = some (I n) := by
  refine ⟨?_, ?_⟩ <;> simp [World.cell?, h]
theorem St.c (h : St w0 L W S x pL pC xa xb g a A w kL nL kC nC ka na kb nb) : (w.cell? ⟨x, 0, none⟩ = some (I L) ∧ w.cell? ⟨x, 1, none⟩ = some (I W) ∧ w.cell? ⟨x, 2, none⟩ = some (I S)) ∧ (w.cell? ⟨xa, 0, none⟩ = some (I ka) ∧ w.cell? ⟨xa, 1, none⟩ = some (I na)) ∧ (w.cell? ⟨xb, 0, none⟩ = some (I kb) ∧ w.cell? ⟨xb, 1, none⟩ = some (I nb)) ∧ (∀ i, w.frozen? ⟨xa, i, none⟩ = false) ∧ (∀ i, w.frozen? ⟨xb, i, none⟩ = false) :=
  ⟨var_cells h.hx, two_cells h.ha, two_cells h.hb, free_at h.ha, free_at h.hb⟩
end

set_option maxHeartbeats 4000000 in
set_option maxRecDepth 20000 in
theorem walk {w : World} (n : Int) (n0 : -9223372036854775808 ≤ n) (n1 : n ≤ 9223372036854775807) (v : Value) (z : List Int) (hv : IntsAt w v z) (hz : i64ok z) (hm : z.length ≤ maxLen) (u : Value) (y : List Int) (hu : IntsAt w u y) (hy : i64ok y) (hmy : y.length ≤ maxLen) :
    Calls Try.prog 4 #[.int .i64 n, v, u] w fun e w' => e = .returned (.bool true) ∧ Bl w w' := by
  have Ac := Lib.hid (fun w' (hb : Bl w w') => acts_any z v w' (Rd.below hv hb) hz hm)
  obtain ⟨au, cu, rfl, R⟩ := rd_any hu
  obtain ⟨M, hM⟩ : ∃ K, y.length = K := ⟨_, rfl⟩
  have hyy : ∀ k, k < M → -9223372036854775808 ≤ y.getD k 0 ∧ y.getD k 0 ≤ 9223372036854775807 := fun k hk => hy _ (getD_mem y k 0 (by omega))
  rw [hM] at R hmy ⊢
  unfold maxLen at hmy
  replace R := Lib.hid R; replace hyy := Lib.hid hyy
  clear hv hu hz hy hm hM
  have Ra := Lib.hid (fun w => rate_any n w n0 n1)
  go_enter Try.func4, Try.ntmps4
  go_wp2_with fail
  refine (Ra.out _).mono ?_
  rintro e w1 ⟨L, W, S, rfl, hk, L12, W9, hb1⟩
  have hk' := hk
  obtain ⟨L0, L1, W0, W1, S0, S1⟩ := hk'
  replace hk := Lib.hid hk
  go_wp2_with fail
  refine (limiter_any L W S _).mono ?_
  rintro e w2 ⟨pL, rfl, hpL, hL, hb2⟩
  have hx2 := var_bl (heap_alloc_new w1 (.cells #[I L, I W, I S] 23)) hb2
  obtain ⟨x, hx⟩ : ∃ x, w1.heap.size = x := ⟨_, rfl⟩
  have o1 : x < pL := by simp at hpL; omega
  have o0 : w.heap.size ≤ x := by have := hb1.size; omega
  have hb0 : Bl w w2 := hb1.tr (((Bl.rfl' w1).al _).tr hb2)
  rw [hx] at hx2
  clear hb2 hpL hb1
  obtain ⟨d0, d1, d2⟩ := var_cells hx2
  go_wp2_with fail
  refine (client_any L W S _).mono ?_
  rintro e w3 ⟨pC, rfl, hpC, hC, hb3⟩
  have o2 : pL < pC := by have := hL.lt; omega
  replace hx2 := var_bl hx2 hb3
  replace hL := hL.bl hb3
  replace hb0 := hb0.tr hb3
  have hC3 := hC.lt
  clear d0 d1 d2 hpC hb3
  have hwa := hb0.al (.cells #[I 0, I 0] 38)
  have hwb := hwa.al (.cells #[I 0, I 0] 38)
  have Ac2 := Lib.hid (Ac.out _ hwb)
  go_wp2_with fail
  refine Ac2.out.mono ?_
  rintro e w4 ⟨a, cap, g, A, rfl, ⟨hA60, hAok, hAp⟩, hg, hAr, hb4⟩
  have ba := (Bl.rfl' w3).al (.cells #[I 0, I 0] 38)
  have bb := (ba.al (.cells #[I 0, I 0] 38)).tr hb4
  have hxa := var_bl (heap_alloc_new w3 (.cells #[I 0, I 0] 38)) (((Bl.rfl' _).al (.cells #[I 0, I 0] 38)).tr hb4)
  have hxb := var_bl (heap_alloc_new (w3.alloc (.cells #[I 0, I 0] 38)) (.cells #[I 0, I 0] 38)) hb4
  rw [show (w3.alloc (.cells #[I 0, I 0] 38)).heap.size = w3.heap.size + 1 by simp] at hxb
  have o3 : pC < w3.heap.size := hC3
  have o5 : w3.heap.size + 1 < g := by simp at hg; omega
  have hS : St w L W S x pL pC w3.heap.size (w3.heap.size + 1) g a A w4 0 0 0 0 0 0 0 0 := ⟨var_bl hx2 bb, hL.bl bb, hC.bl bb, hxa, hxb, hAr, hwb.tr hb4⟩
  obtain ⟨xa, hxa'⟩ : ∃ t, w3.heap.size = t := ⟨_, rfl⟩
  rw [hxa'] at hS o3 o5 ⊢
  obtain ⟨xb, hxb'⟩ : ∃ t, xa + 1 = t := ⟨_, rfl⟩
  rw [hxb'] at hS o5 ⊢
  have P : Pl x pL pC xa xb g w := ⟨o0, o1, o2, o3, by omega, o5⟩
  replace hS := Lib.hid hS
  clear hx2 hL hC hb0 hwa hwb hb4 hAr ba bb hxa hxb hg hC3 hAp
  obtain ⟨N, hN⟩ : ∃ N, A.length = N := ⟨_, rfl⟩
  have hAA : ∀ i, i < N → okA (A.getD i (0, 0, 0)) := fun i hi => hAok _ (by
    rw [List.getD_eq_getElem?_getD, List.getElem?_eq_getElem (by omega)]; exact List.getElem_mem _)
  rw [hN] at hA60 ⊢
  replace hAA := Lib.hid hAA
  clear hAok
  go_wp2_with fail
  go_loopw [13] (fun i wr => ∃ (k : Nat) (kL nL kC nC : Int), k ≤ N ∧ i = I k ∧ 0 ≤ nL ∧ nL ≤ L ∧ 0 ≤ nC ∧ nC ≤ 2000 * k ∧ St w L W S x pL pC xa xb g a A wr kL nL kC nC kL nL kC nC) (fun i _ => N - (intOf i).toNat)
  case atStart => exact ⟨0, 0, 0, 0, 0, by omega, rfl, by omega, by omega, by omega, by omega, hS.out⟩
  case round =>
    obtain ⟨k, kL, nL, kC, nC, hkN, rfl, nL0, nL1, nC0, nC1, hSr⟩ := hrel
    clear hS
    by_cases hlt : k < N
    · obtain ⟨rfl, q0, q1, q2⟩ := hSr.hA.c k (by omega)
      obtain ⟨hd, t0, t1, _, _⟩ := hAA.out k hlt
      obtain ⟨dd, hdd⟩ : ∃ t, (A.getD k (0, 0, 0)).1 = t := ⟨_, rfl⟩
      obtain ⟨t, ht⟩ : ∃ t, (A.getD k (0, 0, 0)).2.1 = t := ⟨_, rfl⟩
      rw [hdd] at q0 hd; rw [ht] at q1 t0 t1
      clear hdd ht q2
      replace hSr := Lib.hid hSr
      have nxa : x ≠ xa := by have := P.o1; have := P.o2; have := P.o3; omega
      have nxb : x ≠ xb := by have := P.o1; have := P.o2; have := P.o3; have := P.o4; omega
      have nab : xa ≠ xb := by have := P.o4; omega
      obtain ⟨⟨d0, d1, d2⟩, ⟨d3, d4⟩, ⟨d5, d6⟩, fa, fb⟩ := hSr.out.c
      have hcb := cur_bd (W := W) (k := kC) (t := t) nC0 nC1
      have U1 := fun w => ruse_any L W S kC nC t w hk.out t0 (by omega) nC0 (by omega)
      have CU := fun (w : World) h => use_any w pC L W S kC nC t h hk.out t0 (by omega) nC0 (by omega)
      obtain ⟨c, hc⟩ : ∃ qq, cur W kC nC t = qq := ⟨_, rfl⟩
      simp only [hc] at hcb U1 CU
      have hcl : 0 ≤ less c ∧ less c ≤ 2000 * k := by unfold less; split <;> omega
      obtain ⟨cl, hcl'⟩ : ∃ q, less c = q := ⟨_, rfl⟩
      simp only [hcl'] at hcl U1 CU
      obtain ⟨is, his⟩ : ∃ q, decide (0 < c) = q := ⟨_, rfl⟩
      simp only [his] at U1 CU
      have hii : (is != is) = false := by simp
      have CGv := fun (w : World) (g : Int) h (g0 : 0 ≤ g) (g1 : g ≤ 1000000) => give_any w pC L W S (t / W) cl t g h hk.out t0 (by omega) hcl.1 (by omega) g0 g1
      have RGv := fun (w : World) (g : Int) (g0 : 0 ≤ g) (g1 : g ≤ 1000000) => rgive_any L W S (t / W) cl t g w hk.out t0 (by omega) hcl.1 (by omega) g0 g1
      simp only [show cur W (t / W) cl t = cl from if_pos rfl] at CGv RGv
      have FL := fun (w : World) h => forget_any w pL L W S kL nL t h hk.out t0 (by omega)
      have RF := fun (w : World) => rforget_any L W S t w hk.out t0 (by omega)
      have hqq := Lib.hid (rfl : t / W = t / W)
      obtain ⟨q, hq⟩ : ∃ q, t / W = q := ⟨_, rfl⟩
      simp only [hq] at U1 CU CGv RGv FL RF
      replace U1 := Lib.hid U1; replace CU := Lib.hid CU; replace CGv := Lib.hid CGv; replace RGv := Lib.hid RGv; replace FL := Lib.hid FL; replace RF := Lib.hid RF
      clear hc hcl' his hcb hqq
      rcases hd with rfl | rfl
      · have hcL := cur_bd (W := W) (k := kL) (t := t) nL0 nL1
        have A1 := fun w => rask_any L W S kL nL t w hk.out t0 (by omega) nL0 nL1
        have AL := fun (w : World) h => ask_any w pL L W S kL nL t h hk.out t0 (by omega) nL0 nL1
        obtain ⟨cL, hcL'⟩ : ∃ qq, cur W kL nL t = qq := ⟨_, rfl⟩
        simp only [hcL'] at hcL A1 AL
        have hm : lease.ask L S cL = min S (L - cL) := rfl
        obtain ⟨m, hm'⟩ : ∃ q, lease.ask L S cL = q := ⟨_, rfl⟩
        simp only [hm', hq] at A1 AL hm
        have hmb : 0 ≤ m ∧ m ≤ 12 ∧ cL + m ≤ L := by omega
        have hmm : (m != m) = false := by simp
        replace A1 := Lib.hid A1; replace AL := Lib.hid AL
        clear hcL' hm' hm
        go_wp2_with fail
        refine (U1.out _).mono ?_
        rintro e w5 ⟨rfl, hb5⟩
        have hS5 := hSr.out.step hb5
        have hS6 := Lib.hid ((hS5.step ((Bl.rfl' _).al (.cells #[I q, I cl] 38))).setb P q cl)
        clear hSr hb5 d0 d1 d2 d3 d4 d5 d6 fa fb
        obtain ⟨⟨d0, d1, d2⟩, ⟨d3, d4⟩, ⟨d5, d6⟩, fa, fb⟩ := hS5.c
        obtain ⟨⟨_, _, _⟩, ⟨_, _⟩, ⟨_, _⟩, fa', fb'⟩ := (hS5.step ((Bl.rfl' _).al (.cells #[I q, I cl] 38))).c
        clear hS5
        go_wp2_with fail
        refine (CU.out _ hS6.out.hC).mono ?_
        rintro e w7 ⟨rfl, hl7, hg7⟩
        have hS7 := hS6.out.cli P hl7 hg7
        clear hS6 hl7 hg7 d0 d1 d2 d3 d4 d5 d6 fa fb
        obtain ⟨⟨d0, d1, d2⟩, ⟨d3, d4⟩, ⟨d5, d6⟩, fa, fb⟩ := hS7.c
        replace hS7 := Lib.hid hS7
        go_wp2_with fail
        refine (A1.out _).mono ?_
        rintro e w8 ⟨rfl, hb8⟩
        have hS8 := hS7.out.step hb8
        have hS9 := Lib.hid ((hS8.step ((Bl.rfl' _).al (.cells #[I q, I (cL + m)] 38))).seta P q (cL + m))
        clear hS7 hb8 d0 d1 d2 d3 d4 d5 d6 fa fb
        obtain ⟨⟨d0, d1, d2⟩, ⟨d3, d4⟩, ⟨d5, d6⟩, fa, fb⟩ := hS8.c
        obtain ⟨⟨_, _, _⟩, ⟨_, _⟩, ⟨_, _⟩, fa', fb'⟩ := (hS8.step ((Bl.rfl' _).al (.cells #[I q, I (cL + m)] 38))).c
        clear hS8
        go_wp2_with fail
        refine (AL.out _ hS9.out.hL).mono ?_
        rintro e w10 ⟨rfl, hl10, hg10⟩
        have hS10 := hS9.out.lim P hl10 hg10
        clear hS9 hl10 hg10 d0 d1 d2 d3 d4 d5 d6 fa fb
        by_cases hkM : k < M
        · obtain ⟨b, off, rfl, hce⟩ := R.out w10 hS10.bl k hkM
          unfold icell at hce
          obtain ⟨yy, hyy2⟩ : ∃ q, y.getD k 0 = q := ⟨_, rfl⟩
          have hyb := hyy.out k hkM
          rw [hyy2] at hce hyb
          have Ar := fun w => around_any yy 3 w hyb.1 hyb.2 (by omega) (by omega)
          have r0 := around_lo yy 3 (by omega); have r1 := around_hi yy 3 (by omega)
          obtain ⟨r, hr⟩ : ∃ q, around yy 3 = q := ⟨_, rfl⟩
          rw [hr] at Ar r0 r1
          replace Ar := Lib.hid Ar
          clear hyy2 hyb hr
          replace hS10 := Lib.hid hS10
          go_wp2_with fail
          refine (Ar.out _).mono ?_
          rintro e w11 ⟨rfl, rfl⟩
          clear hce
          obtain ⟨gg, hgg⟩ : ∃ q, m + r = q := ⟨_, rfl⟩
          have hwg : IntKind.i64.wrap (m + r) = gg := by rw [IntKind.wrap_i64]; omega
          have hgb : 0 ≤ gg ∧ gg ≤ 14 := by omega
          have CG := Lib.hid (fun (w : World) h => CGv.out w gg h hgb.1 (by omega))
          have RG := Lib.hid (fun (w : World) => RGv.out w gg hgb.1 (by omega))
          go_wp2_with fail
          refine (CG.out _ hS10.out.hC).mono ?_
          rintro e w12 ⟨rfl, hl12, hg12⟩
          have hS12 := hS10.out.cli P hl12 hg12
          clear hS10 hl12 hg12
          obtain ⟨⟨d0, d1, d2⟩, ⟨d3, d4⟩, ⟨d5, d6⟩, fa, fb⟩ := hS12.c
          replace hS12 := Lib.hid hS12
          go_wp2_with fail
          refine (RG.out _).mono ?_
          rintro e w13 ⟨rfl, hb13⟩
          have hS13 := hS12.out.step hb13
          have hS14 := Lib.hid (hS13.setb P q (cl + gg))
          clear hS12 hb13 d0 d1 d2 d3 d4 d5 d6 fa fb
          obtain ⟨⟨d0, d1, d2⟩, ⟨d3, d4⟩, ⟨d5, d6⟩, fa, fb⟩ := hS13.c
          clear hS13
          go_wp2_with fail
          go_roundw
          case rel => exact ⟨k + 1, q, cL + m, q, cl + gg, by omega, by go_num, by omega, by omega, by omega, by omega, hS14.out⟩
          case measure => simp [intOf]; omega
        · obtain ⟨gg, hgg⟩ : ∃ q, m = q := ⟨_, rfl⟩
          have r0 : 0 ≤ (0 : Int) := by omega
          replace hS10 := Lib.hid hS10
          have hgb : 0 ≤ gg ∧ gg ≤ 14 := by omega
          have CG := Lib.hid (fun (w : World) h => CGv.out w gg h hgb.1 (by omega))
          have RG := Lib.hid (fun (w : World) => RGv.out w gg hgb.1 (by omega))
          go_wp2_with fail
          refine (CG.out _ hS10.out.hC).mono ?_
          rintro e w12 ⟨rfl, hl12, hg12⟩
          have hS12 := hS10.out.cli P hl12 hg12
          clear hS10 hl12 hg12
          obtain ⟨⟨d0, d1, d2⟩, ⟨d3, d4⟩, ⟨d5, d6⟩, fa, fb⟩ := hS12.c
          replace hS12 := Lib.hid hS12
          go_wp2_with fail
          refine (RG.out _).mono ?_
          rintro e w13 ⟨rfl, hb13⟩
          have hS13 := hS12.out.step hb13
          have hS14 := Lib.hid (hS13.setb P q (cl + gg))
          clear hS12 hb13 d0 d1 d2 d3 d4 d5 d6 fa fb
          obtain ⟨⟨d0, d1, d2⟩, ⟨d3, d4⟩, ⟨d5, d6⟩, fa, fb⟩ := hS13.c
          clear hS13
          go_wp2_with fail
          go_roundw
          case rel => exact ⟨k + 1, q, cL + m, q, cl + gg, by omega, by go_num, by omega, by omega, by omega, by omega, hS14.out⟩
          case measure => simp [intOf]; omega
      · go_wp2_with fail
        refine (FL.out _ hSr.out.hL).mono ?_
        rintro e w5 ⟨rfl, hl5, hg5⟩
        have hS5 := hSr.out.lim P hl5 hg5
        clear hSr hl5 hg5 d0 d1 d2 d3 d4 d5 d6 fa fb
        obtain ⟨⟨d0, d1, d2⟩, ⟨d3, d4⟩, ⟨d5, d6⟩, fa, fb⟩ := hS5.c
        replace hS5 := Lib.hid hS5
        go_wp2_with fail
        refine (RF.out _).mono ?_
        rintro e w6 ⟨rfl, hb6⟩
        have hS6 := hS5.out.step hb6
        clear hS5 hb6 d0 d1 d2 d3 d4 d5 d6 fa fb
        obtain ⟨⟨d0, d1, d2⟩, ⟨d3, d4⟩, ⟨d5, d6⟩, fa, fb⟩ := hS6.c
        have hSr := Lib.hid (hS6.seta P q L)
        clear hS6
        have hcL := cur_bd (W := W) (k := q) (t := t) (show 0 ≤ L by omega) (Int.le_refl L)
        have A1 := fun w => rask_any L W S q L t w hk.out t0 (by omega) (show 0 ≤ L by omega) (Int.le_refl L)
        have AL := fun (w : World) h => ask_any w pL L W S q L t h hk.out t0 (by omega) (show 0 ≤ L by omega) (Int.le_refl L)
        obtain ⟨cL, hcL'⟩ : ∃ qq, cur W q L t = qq := ⟨_, rfl⟩
        simp only [hcL'] at hcL A1 AL
        have hm : lease.ask L S cL = min S (L - cL) := rfl
        obtain ⟨m, hm'⟩ : ∃ q, lease.ask L S cL = q := ⟨_, rfl⟩
        simp only [hm', hq] at A1 AL hm
        have hmb : 0 ≤ m ∧ m ≤ 12 ∧ cL + m ≤ L := by omega
        have hmm : (m != m) = false := by simp
        replace A1 := Lib.hid A1; replace AL := Lib.hid AL
        clear hcL' hm' hm
        go_wp2_with fail
        refine (U1.out _).mono ?_
        rintro e w5 ⟨rfl, hb5⟩
        have hS5 := hSr.out.step hb5
        have hS6 := Lib.hid ((hS5.step ((Bl.rfl' _).al (.cells #[I q, I cl] 38))).setb P q cl)
        clear hSr hb5 d0 d1 d2 d3 d4 d5 d6 fa fb
        obtain ⟨⟨d0, d1, d2⟩, ⟨d3, d4⟩, ⟨d5, d6⟩, fa, fb⟩ := hS5.c
        obtain ⟨⟨_, _, _⟩, ⟨_, _⟩, ⟨_, _⟩, fa', fb'⟩ := (hS5.step ((Bl.rfl' _).al (.cells #[I q, I cl] 38))).c
        clear hS5
        go_wp2_with fail
        refine (CU.out _ hS6.out.hC).mono ?_
        rintro e w7 ⟨rfl, hl7, hg7⟩
        have hS7 := hS6.out.cli P hl7 hg7
        clear hS6 hl7 hg7 d0 d1 d2 d3 d4 d5 d6 fa fb
        obtain ⟨⟨d0, d1, d2⟩, ⟨d3, d4⟩, ⟨d5, d6⟩, fa, fb⟩ := hS7.c
        replace hS7 := Lib.hid hS7
        go_wp2_with fail
        refine (A1.out _).mono ?_
        rintro e w8 ⟨rfl, hb8⟩
        have hS8 := hS7.out.step hb8
        have hS9 := Lib.hid ((hS8.step ((Bl.rfl' _).al (.cells #[I q, I (cL + m)] 38))).seta P q (cL + m))
        clear hS7 hb8 d0 d1 d2 d3 d4 d5 d6 fa fb
        obtain ⟨⟨d0, d1, d2⟩, ⟨d3, d4⟩, ⟨d5, d6⟩, fa, fb⟩ := hS8.c
        obtain ⟨⟨_, _, _⟩, ⟨_, _⟩, ⟨_, _⟩, fa', fb'⟩ := (hS8.step ((Bl.rfl' _).al (.cells #[I q, I (cL + m)] 38))).c
        clear hS8
        go_wp2_with fail
        refine (AL.out _ hS9.out.hL).mono ?_
        rintro e w10 ⟨rfl, hl10, hg10⟩
        have hS10 := hS9.out.lim P hl10 hg10
        clear hS9 hl10 hg10 d0 d1 d2 d3 d4 d5 d6 fa fb
        by_cases hkM : k < M
        · obtain ⟨b, off, rfl, hce⟩ := R.out w10 hS10.bl k hkM
          unfold icell at hce
          obtain ⟨yy, hyy2⟩ : ∃ q, y.getD k 0 = q := ⟨_, rfl⟩
          have hyb := hyy.out k hkM
          rw [hyy2] at hce hyb
          have Ar := fun w => around_any yy 3 w hyb.1 hyb.2 (by omega) (by omega)
          have r0 := around_lo yy 3 (by omega); have r1 := around_hi yy 3 (by omega)
          obtain ⟨r, hr⟩ : ∃ q, around yy 3 = q := ⟨_, rfl⟩
          rw [hr] at Ar r0 r1
          replace Ar := Lib.hid Ar
          clear hyy2 hyb hr
          replace hS10 := Lib.hid hS10
          go_wp2_with fail
          refine (Ar.out _).mono ?_
          rintro e w11 ⟨rfl, rfl⟩
          clear hce
          obtain ⟨gg, hgg⟩ : ∃ q, m + r = q := ⟨_, rfl⟩
          have hwg : IntKind.i64.wrap (m + r) = gg := by rw [IntKind.wrap_i64]; omega
          have hgb : 0 ≤ gg ∧ gg ≤ 14 := by omega
          have CG := Lib.hid (fun (w : World) h => CGv.out w gg h hgb.1 (by omega))
          have RG := Lib.hid (fun (w : World) => RGv.out w gg hgb.1 (by omega))
          go_wp2_with fail
          refine (CG.out _ hS10.out.hC).mono ?_
          rintro e w12 ⟨rfl, hl12, hg12⟩
          have hS12 := hS10.out.cli P hl12 hg12
          clear hS10 hl12 hg12
          obtain ⟨⟨d0, d1, d2⟩, ⟨d3, d4⟩, ⟨d5, d6⟩, fa, fb⟩ := hS12.c
          replace hS12 := Lib.hid hS12
          go_wp2_with fail
          refine (RG.out _).mono ?_
          rintro e w13 ⟨rfl, hb13⟩
          have hS13 := hS12.out.step hb13
          have hS14 := Lib.hid (hS13.setb P q (cl + gg))
          clear hS12 hb13 d0 d1 d2 d3 d4 d5 d6 fa fb
          obtain ⟨⟨d0, d1, d2⟩, ⟨d3, d4⟩, ⟨d5, d6⟩, fa, fb⟩ := hS13.c
          clear hS13
          go_wp2_with fail
          go_roundw
          case rel => exact ⟨k + 1, q, cL + m, q, cl + gg, by omega, by go_num, by omega, by omega, by omega, by omega, hS14.out⟩
          case measure => simp [intOf]; omega
        · obtain ⟨gg, hgg⟩ : ∃ q, m = q := ⟨_, rfl⟩
          have r0 : 0 ≤ (0 : Int) := by omega
          replace hS10 := Lib.hid hS10
          have hgb : 0 ≤ gg ∧ gg ≤ 14 := by omega
          have CG := Lib.hid (fun (w : World) h => CGv.out w gg h hgb.1 (by omega))
          have RG := Lib.hid (fun (w : World) => RGv.out w gg hgb.1 (by omega))
          go_wp2_with fail
          refine (CG.out _ hS10.out.hC).mono ?_
          rintro e w12 ⟨rfl, hl12, hg12⟩
          have hS12 := hS10.out.cli P hl12 hg12
          clear hS10 hl12 hg12
          obtain ⟨⟨d0, d1, d2⟩, ⟨d3, d4⟩, ⟨d5, d6⟩, fa, fb⟩ := hS12.c
          replace hS12 := Lib.hid hS12
          go_wp2_with fail
          refine (RG.out _).mono ?_
          rintro e w13 ⟨rfl, hb13⟩
          have hS13 := hS12.out.step hb13
          have hS14 := Lib.hid (hS13.setb P q (cl + gg))
          clear hS12 hb13 d0 d1 d2 d3 d4 d5 d6 fa fb
          obtain ⟨⟨d0, d1, d2⟩, ⟨d3, d4⟩, ⟨d5, d6⟩, fa, fb⟩ := hS13.c
          clear hS13
          go_wp2_with fail
          go_roundw
          case rel => exact ⟨k + 1, q, cL + m, q, cl + gg, by omega, by go_num, by omega, by omega, by omega, by omega, hS14.out⟩
          case measure => simp [intOf]; omega
    · obtain rfl : k = N := by omega
      go_wp2_with fail
      refine (lives24 _).mono ?_
      rintro e w9 ⟨rfl, hb9⟩
      go_wp2_with fail
      go_ret
      exact ⟨rfl, hSr.bl.tr hb9⟩
end Go.Proofs.Ytifmoekgnbgnmaa.leasePlays
