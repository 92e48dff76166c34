/-
  Package cert: an authority behind acts; the example.
-/
import Derived.Test.YtajnhjcinpdfhaaCrF
namespace Go.Proofs.Ytajnhjcinpdfhaa.cert
open Go.ChangeShapes Go.WideShapes Go.ChangeAt Go.RowKit
set_option linter.unusedVariables false
set_option linter.unusedSimpArgs false

structure PS where
  U : List Int
  G : List Crt
  S : List Int
  t : Int
def pstep (s : PS) (a : Ac) : PS :=
  if a.d = 0 then ⟨s.U, s.G ++ [⟨(s.G.length : Int) + 1, (s.U.length : Int) + 1, a.n, a.a, a.a + a.l⟩], s.S, a.a⟩
  else if a.d = 1 then ⟨s.U.map (fun u => min u (a.a + a.l)) ++ [a.a + a.l], s.G, s.S, a.a⟩
  else ⟨s.U, s.G, if 1 ≤ a.n ∧ a.n ≤ s.G.length ∧ a.n ∉ s.S then a.n :: s.S else s.S, a.a⟩
def playTo (A : List Ac) : Nat → PS
  | 0 => ⟨[], [], [], 0⟩
  | k + 1 => pstep (playTo A k) (A.getD k a0)
theorem playTo_len (A : List Ac) : ∀ k, (playTo A k).U.length ≤ k ∧ (playTo A k).G.length ≤ k
  | 0 => by simp [playTo]
  | k + 1 => by
    have := playTo_len A k
    unfold playTo pstep
    split
    · simp only [List.length_append, List.length_cons, List.length_nil]; omega
    · split
      · simp only [List.length_append, List.length_map, List.length_cons, List.length_nil]; omega
      · simp only; omega

theorem tch_row {w w' : World} {row : Option Nat} (g : w.grownBy w' row) : Tch (fun k => row = some k) w w' :=
  ⟨g.os, g.tape, g.output, g.size, fun k hk hn => g.block k hk (fun e => hn e.symm)⟩

def PlayedD (A : List Ac) (w : World) : Ending → World → Prop := fun e w' => ∃ p vo ks, e = .returned (.tuple #[ptr p, vo, I (playTo A A.length).t]) ∧ CA ks w' p (playTo A A.length).U (playTo A A.length).G (playTo A A.length).S ∧
  OwnB cB 5 24 w' w.heap.size vo (playTo A A.length).G ∧ (∀ q, vo.ownBlock = some q → ¬ ks q) ∧ (∀ q, ks q → w.heap.size ≤ q ∧ q < w'.heap.size) ∧ Bl w w'

set_option maxHeartbeats 8000000 in
set_option maxRecDepth 20000 in
theorem played_any (A : List Ac) (w : World) (b : Nat) (v : Value) (hv : OwnB aB 4 42 w b v A) (hA : ∀ x ∈ A, okA x) (hl : A.length ≤ 16) :
    Calls Try.prog 7 #[v] w (PlayedD A w) := by
  obtain ⟨iu, hiu, zu0, zu1, zu2⟩ := info_parts infoC
  obtain ⟨a, g, cap, rfl, -, -, -, hR⟩ := hv.row (by decide)
  have hAA : ∀ k, k < A.length → okA (A.getD k a0) := fun k hk => hA _ (getD_mem A k a0 hk)
  have hlen := playTo_len A
  have hP0 : playTo A 0 = ⟨[], [], [], 0⟩ := rfl
  have hPs : ∀ k, playTo A (k + 1) = pstep (playTo A k) (A.getD k a0) := fun k => rfl
  unfold PlayedD
  obtain ⟨P, hP⟩ : ∃ P, playTo A = P := ⟨_, rfl⟩
  rw [hP] at hlen hP0 hPs
  simp only [hP]
  obtain ⟨N, hN⟩ : ∃ z_, (A.length) = z_ := ⟨_, rfl⟩
  rw [hN] at hl hAA ⊢
  replace hR := Lib.hid hR
  replace hAA := Lib.hid hAA
  replace hlen := Lib.hid hlen
  replace hP0 := Lib.hid hP0
  replace hPs := Lib.hid hPs
  replace hN := Lib.hid hN
  clear hA hP hv
  go_enter Try.func7, Try.ntmps7
  go_wp2_with fail
  first | with_reducible refine (new_any w).mono ?_ | refine (new_any w).mono ?_
  rintro e w1 ⟨p, rfl, hC, hb1⟩
  have hC := Lib.hid (hC.bound (Nat.le_refl _) (fun k h1 h2 => (⟨h1, h2⟩ : w.heap.size ≤ k ∧ k < w1.heap.size)))
  replace hb1 := Lib.hid hb1
  go_wp2_with fail
  go_loopw [6, 7, 8] (fun o t i wr => ∃ (k : Nat) (ks : Nat → Prop), k ≤ N ∧ i = I k ∧ t = I (P k).t ∧ CA ks wr p (P k).U (P k).G (P k).S ∧ OwnB cB 5 24 wr w.heap.size o (P k).G ∧ (∀ q, o.ownBlock = some q → ¬ ks q) ∧ (∀ q, ks q → w.heap.size ≤ q ∧ q < wr.heap.size) ∧ Bl w wr) (fun _ _ i _ => N - (intOf i).toNat)
  case atStart => exact ⟨0, _, by omega, rfl, by rw [hP0.out], by rw [hP0.out]; exact hC.out, by rw [hP0.out]; exact OwnB.nil _ _ _, by simp [Value.ownBlock], fun q h => h, hb1.out⟩
  case round =>
    obtain ⟨k, ks, hk, rfl, rfl, hCA, hown, hnk, hks, hbr⟩ := hrel
    clear hC hb1
    by_cases hlt : k < N
    · obtain ⟨rfl, q⟩ := (hR.out.bl hbr).c0 aB_len a0 k (by rw [hN.out]; exact hlt)
      have q0 := q 0 (by decide); have q1 := q 1 (by decide); have q2 := q 2 (by decide); have q3 := q 3 (by decide)
      simp only [Nat.add_zero, List.getElem?_cons_zero, List.getElem?_cons_succ] at q0 q1 q2 q3
      have hx1 := hAA.out k hlt
      have hstep := hPs.out k
      obtain ⟨l1, l2⟩ := hlen.out k
      obtain ⟨x, hx⟩ : ∃ z_, (A.getD k a0) = z_ := ⟨_, rfl⟩
      rw [hx] at q0 q1 q2 q3 hx1 hstep
      obtain ⟨s, hs⟩ : ∃ z_, (P k) = z_ := ⟨_, rfl⟩
      simp only [hs] at hstep l1 l2 hCA hown ⊢
      obtain ⟨xd, xa, xn, xl⟩ := x
      obtain ⟨U, G, S, tt⟩ := s
      obtain ⟨m1, m2, m3, m4⟩ := hx1
      simp only at q0 q1 q2 q3 l1 l2 hCA hown m1 m2 m3 m4 ⊢
      have hal := (Bl.rfl' wr).al (.cells #[I xd, I xa, I xn, I xl] 42)
      have hY := heap_alloc_new wr (.cells #[I xd, I xa, I xn, I xl] 42)
      have hC2 := hCA.bl hal
      have ho2 := hown.bl hal
      have hb2 := hbr.tr hal
      have hsz : wr.heap.size ≤ (wr.alloc (.cells #[I xd, I xa, I xn, I xl] 42)).heap.size := hal.size
      have hlt2 := World.ownsRow.lt ho2
      clear q hs hCA hown hbr hx hal
      obtain ⟨w0, hw0⟩ : ∃ z_, (wr.alloc (.cells #[I xd, I xa, I xn, I xl] 42)) = z_ := ⟨_, rfl⟩
      rw [hw0] at hY hC2 ho2 hb2 hsz hlt2
      have y0 := cell_at hY 0; have y1 := cell_at hY 1; have y2 := cell_at hY 2; have y3 := cell_at hY 3
      simp only [List.getElem?_toArray, List.getElem?_cons_succ, List.getElem?_cons_zero] at y0 y1 y2 y3
      rcases m1 with rfl | rfl | rfl
      · have hT1 : P (k + 1) = ⟨U, G ++ [⟨(G.length : Int) + 1, (U.length : Int) + 1, xn, xa, xa + xl⟩], S, xa⟩ := by rw [hstep]; rfl
        have IS := issue_any hC2 (by omega) (by omega) xn xa xl (by omega) (by omega) (by omega) (by omega)
        unfold IssueD at IS
        replace hT1 := Lib.hid hT1
        replace hC2 := Lib.hid hC2
        replace ho2 := Lib.hid ho2
        replace hb2 := Lib.hid hb2
        replace IS := Lib.hid IS
        replace hY := Lib.hid hY
        replace hlt2 := Lib.hid hlt2
        replace hnk := Lib.hid hnk
        replace hks := Lib.hid hks
        clear hstep
        go_wp2_with fail
        refine IS.out.mono ?_
        rintro e w5 ⟨rfl, hC5, hT5⟩
        have ho5 := own_tch ho2.out hT5 hnk.out
        have hb5 := hb2.out.tch hT5 (fun q hq => (hks.out q hq).1)
        have hs5 := hT5.size
        have hbs := hb5.size
        have hnk5 : ∀ q, u6.ownBlock = some q → ¬ grw ks w0 w5 q := fun q hq => grw_not (hnk.out q hq) (hlt2.out q hq).2
        clear IS hY y0 y1 y2 y3
        obtain ⟨c', hc'⟩ : ∃ c', (⟨(G.length : Int) + 1, (U.length : Int) + 1, xn, xa, xa + xl⟩ : Crt) = c' := ⟨_, rfl⟩
        rw [hc'] at hC5 hT1
        simp only [hc']
        obtain ⟨cs, cr, cvv, cf, ct⟩ := c'
        clear hc'
        unfold OwnB at ho5
        replace hC5 := Lib.hid hC5
        replace ho5 := Lib.hid ho5
        replace hb5 := Lib.hid hb5
        replace hnk5 := Lib.hid hnk5
        go_wp2_with (at_builtin; refine wpList_append_rec rfl _ _ 26 rfl w.heap.size 24 iu (.agg #[I 0, I 0, I 0, I 0, I 0]) 5 40 Try.underlying26 hiu zu0 zu1 zu2 rfl (by decide) _ _ _ rfl ho5.out #[I cs, I cr, I cvv, I cf, I ct] _ rfl (by intro u hu; simp at hu; rcases hu with rfl | rfl | rfl | rfl | rfl <;> rfl) 1 rfl (by omega) (by omega) (by omega) ?_)
        intro b' cap' w7 hown' hgrow hbn
        have hC7 := hC5.out.tch (tch_row hgrow) (fun q h1 h2 => hnk5.out q h2 h1)
        have hb7 := hb5.out.grown hgrow (fun q hq => (ho5.out.lt q hq).1)
        have hs7 := hgrow.size
        have hnk7 : ∀ q, (Value.slice (some ⟨b', 0, none⟩) (G.length + 1) cap').ownBlock = some q → ¬ grw ks w0 w5 q := fun q hq => by
          simp only [Value.ownBlock, Option.some.injEq] at hq
          subst hq
          rcases hbn with h | h
          · exact hnk5.out _ h
          · exact fun hh => by have := hh.2; omega
        have hks7 : ∀ q, grw ks w0 w5 q → w.heap.size ≤ q ∧ q < w7.heap.size := fun q hq => ⟨by
          rcases hq.1 with h | h
          · exact (hks.out q h).1
          · have := hb2.out.size; omega, by have := hq.2; omega⟩
        clear hC5 ho5 hb5 hnk5 hgrow hbn
        replace hC7 := Lib.hid hC7
        replace hown' := Lib.hid hown'
        replace hb7 := Lib.hid hb7
        replace hnk7 := Lib.hid hnk7
        replace hks7 := Lib.hid hks7
        go_wp2_with fail
        go_roundw
        case rel => exact ⟨k + 1, grw ks w0 w5, by omega, by go_num, by rw [hT1.out], by rw [hT1.out]; exact hC7.out, by rw [hT1.out]; unfold OwnB; simp only [List.length_append, flatB_snoc]; exact hown'.out, hnk7.out, hks7.out, hb7.out⟩
        case measure => simp [intOf] <;> omega
      · have hT1 : P (k + 1) = ⟨U.map (fun u => min u (xa + xl)) ++ [xa + xl], G, S, xa⟩ := by rw [hstep]; rfl
        have RO := rotate_any hC2 (by omega) xa xl (by omega) (by omega) (by omega) (by omega)
        unfold RotateD at RO
        replace hT1 := Lib.hid hT1
        replace hC2 := Lib.hid hC2
        replace ho2 := Lib.hid ho2
        replace hb2 := Lib.hid hb2
        replace RO := Lib.hid RO
        replace hY := Lib.hid hY
        replace hlt2 := Lib.hid hlt2
        replace hnk := Lib.hid hnk
        replace hks := Lib.hid hks
        clear hstep
        go_wp2_with fail
        refine RO.out.mono ?_
        rintro e w5 ⟨rfl, hC5, hT5⟩
        have ho5 := own_tch ho2.out hT5 hnk.out
        have hb5 := hb2.out.tch hT5 (fun q hq => (hks.out q hq).1)
        have hs5 := hT5.size
        have hbs := hb2.out.size
        have hnk5 : ∀ q, u6.ownBlock = some q → ¬ grw ks w0 w5 q := fun q hq => grw_not (hnk.out q hq) (hlt2.out q hq).2
        have hks7 : ∀ q, grw ks w0 w5 q → w.heap.size ≤ q ∧ q < w5.heap.size := fun q hq => ⟨by
          rcases hq.1 with h | h
          · exact (hks.out q h).1
          · omega, hq.2⟩
        clear RO hY y0 y1 y2 y3
        replace hC5 := Lib.hid hC5
        replace ho5 := Lib.hid ho5
        replace hb5 := Lib.hid hb5
        replace hnk5 := Lib.hid hnk5
        replace hks7 := Lib.hid hks7
        go_wp2_with fail
        go_roundw
        case rel => exact ⟨k + 1, grw ks w0 w5, by omega, by go_num, by rw [hT1.out], by rw [hT1.out]; exact hC5.out, by rw [hT1.out]; exact ho5.out, hnk5.out, hks7.out, hb5.out⟩
        case measure => simp [intOf] <;> omega
      · have RE := revoke_any hC2 (by omega) xn
        unfold RevokeD at RE
        by_cases hif : 1 ≤ xn ∧ xn ≤ (G.length : Int) ∧ xn ∉ S
        · simp only [if_pos hif] at RE
          have hT1 : P (k + 1) = ⟨U, G, xn :: S, xa⟩ := by rw [hstep]; simp [pstep, hif]
          replace hT1 := Lib.hid hT1
          replace hC2 := Lib.hid hC2
          replace ho2 := Lib.hid ho2
          replace hb2 := Lib.hid hb2
          replace RE := Lib.hid RE
          replace hY := Lib.hid hY
          replace hlt2 := Lib.hid hlt2
          replace hnk := Lib.hid hnk
          replace hks := Lib.hid hks
          clear hstep hif
          go_wp2_with fail
          refine RE.out.mono ?_
          rintro e w5 ⟨rfl, hC5, hT5, hs5⟩
          have ho5 := own_tch ho2.out hT5 hnk.out
          have hb5 := hb2.out.tch hT5 (fun q hq => (hks.out q hq).1)
          have hks7 : ∀ q, ks q → w.heap.size ≤ q ∧ q < w5.heap.size := fun q hq => ⟨(hks.out q hq).1, by have := (hks.out q hq).2; omega⟩
          clear RE hY y0 y1 y2 y3
          replace hC5 := Lib.hid hC5
          replace ho5 := Lib.hid ho5
          replace hb5 := Lib.hid hb5
          replace hks7 := Lib.hid hks7
          go_wp2_with fail
          go_roundw
          case rel => exact ⟨k + 1, ks, by omega, by go_num, by rw [hT1.out], by rw [hT1.out]; exact hC5.out, by rw [hT1.out]; exact ho5.out, hnk.out, hks7.out, hb5.out⟩
          case measure => simp [intOf] <;> omega
        · simp only [if_neg hif] at RE
          have hT1 : P (k + 1) = ⟨U, G, S, xa⟩ := by rw [hstep]; simp [pstep, hif]
          have hks7 : ∀ q, ks q → w.heap.size ≤ q ∧ q < w0.heap.size := fun q hq => ⟨(hks q hq).1, by have := (hks q hq).2; omega⟩
          replace hT1 := Lib.hid hT1
          replace hC2 := Lib.hid hC2
          replace ho2 := Lib.hid ho2
          replace hb2 := Lib.hid hb2
          replace RE := Lib.hid RE
          replace hY := Lib.hid hY
          replace hlt2 := Lib.hid hlt2
          replace hnk := Lib.hid hnk
          replace hks7 := Lib.hid hks7
          clear hstep hif
          go_wp2_with fail
          refine RE.out.mono ?_
          rintro e w5 ⟨rfl, rfl⟩
          clear RE hY y0 y1 y2 y3
          go_wp2_with fail
          go_roundw
          case rel => exact ⟨k + 1, ks, by omega, by go_num, by rw [hT1.out], by rw [hT1.out]; exact hC2.out, by rw [hT1.out]; exact ho2.out, hnk.out, hks7.out, hb2.out⟩
          case measure => simp [intOf] <;> omega
    · obtain rfl : k = N := by omega
      replace hCA := Lib.hid hCA
      replace hown := Lib.hid hown
      replace hbr := Lib.hid hbr
      replace hnk := Lib.hid hnk
      replace hks := Lib.hid hks
      go_wp2_with fail
      refine bodyPost_ret (v := .tuple #[ptr p, u6, I (P k).t]) (by simp [results, Try.results7, go_sem]) rfl ?_
      exact ⟨p, u6, ks, rfl, hCA.out, hown.out, hnk.out, hks.out, hbr.out⟩
end Go.Proofs.Ytajnhjcinpdfhaa.cert
