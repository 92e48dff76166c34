/-
  Package heads: Set.
-/
import Derived.Test.YtnmehmlenbbfbaaHdD0
namespace Go.Proofs.Ytnmehmlenbbfbaa.heads
open Go.ChangeShapes Go.WideShapes Go.ChangeAt Go.RowKit Go.Shelf Go.Lib
set_option linter.unusedVariables false
set_option linter.unusedSimpArgs false

set_option maxRecDepth 20000 in
set_option maxHeartbeats 4000000 in
theorem set_any (v : Value) (A : List Hd) (u : Value) (B : List Hd) (w : World) (hv : HeadsAt w v A) (hu : HeadsAt w u B) (hl : A.length ≤ 100) (hm : B.length ≤ 100) :
    Calls Try.prog 34 #[v, u] w fun e w' => ∃ x, e = .returned x ∧ OwnB hB 2 49 w' w.heap.size x (setP A B) ∧ Bl w w' := by
  obtain ⟨iu, hiu, zu0, zu1, zu2⟩ := info_parts infoH
  have FA := Lib.hid (heads_feed hv)
  obtain ⟨ba, bg, bo, bcap, rfl, b1, b2, br⟩ := hu
  have RC := Lib.hid (fun w' (hb : Bl w w') i hi => (br.bl hb).c hB_len h0 i hi)
  have hown0 := Lib.hid (World.ownsRow_nil w w.heap.size 49 2)
  have ST := fun k h => setP_take A B k h
  clear hv br
  replace ST := Lib.hid ST
  go_enter Try.func34, Try.ntmps34
  go_wp2_with (at_builtin; refine wpList_append_feed rfl _ _ 23 rfl w.heap.size 49 iu (.agg #[S ByteArray.empty, S ByteArray.empty]) 2 32 Try.underlying23 hiu zu0 zu1 zu2 rfl (by decide) _ 0 [] (by first | rfl | simp [Act.eval, Act.put]) hown0.out _ A.length (flatB hB A) FA.out (flat_one A) (by first | rfl | simp [Act.eval, Act.put]) (by omega) (by omega) (Nat.le_refl _) ?_)
  intro v5 w5 hown5 hgrow5
  have hb5 := (Bl.rfl' w).grown hgrow5 (fun k hk => (hown0.out.lt k hk).1)
  replace hown5 : OwnB hB 2 49 w5 w.heap.size v5 (setP A (B.take 0)) := by
    show w5.ownsRow _ _ _ _ A.length (flatB hB A)
    first | exact hown5 | (rw [Nat.zero_add, List.nil_append] at hown5; exact hown5)
  have LN := fun k => setP_len A 100 (by omega) hl (B.take k)
  clear hgrow5 FA hown0
  replace hown5 := Lib.hid hown5
  replace hb5 := Lib.hid hb5
  go_wp2_with fail
  go_loopw [5, 13] (fun o i wr => ∃ k : Nat, k ≤ B.length ∧ i = I k ∧ OwnB hB 2 49 wr w.heap.size o (setP A (B.take k)) ∧ Bl w wr) (fun _ i _ => B.length - (intOf i).toNat)
  case atStart => exact ⟨0, by omega, rfl, hown5.out, hb5.out⟩
  case round =>
    obtain ⟨k, hk, rfl, hown, hbr⟩ := hrel
    by_cases hlt : k < B.length
    · obtain ⟨ha, hcc⟩ := RC.out _ hbr k hlt
      subst ha
      have c0 := hcc 0 (by decide)
      have c1 := hcc 1 (by decide)
      simp only [List.getElem?_cons_succ, List.getElem?_cons_zero, Nat.add_zero, ← Nat.add_assoc] at c0 c1
      have hst := ST.out k hlt
      have hln := LN k
      obtain ⟨x, hx⟩ : ∃ z_, (B.getD k h0) = z_ := ⟨_, rfl⟩
      rw [hx] at c0 c1 hst
      obtain ⟨n, u⟩ := x
      simp only at c0 c1
      obtain ⟨O, hO⟩ : ∃ z_, (setP A (B.take k)) = z_ := ⟨_, rfl⟩
      rw [hO] at hown hst hln
      have hbs := hbr.size
      have hal := (Bl.rfl' wr).al (oH ⟨n, u⟩)
      have hX := heap_alloc_new wr (oH ⟨n, u⟩)
      have x0 := cell_at hX 0
      simp only [List.getElem?_toArray, List.getElem?_cons_succ, List.getElem?_cons_zero] at x0
      have wk : IntKind.i64.wrap ((k : Int) + 1) = ((k + 1 : Nat) : Int) := by rw [IntKind.wrap_i64]; omega
      have PL := place_any _ O n _ (heads_own (OwnB.bl hown hal)) (by omega)
      obtain ⟨ra, rg, rcap, rfl, hrg, hrc, hrc2, hRR⟩ := OwnB.row hown (by decide)
      have ig := idx_get O n
      have hne : ∀ q, (Value.slice ra O.length rcap).ownBlock = some q → q < wr.heap.size := fun q hq => (hown.lt q hq).2
      have hown1 := OwnB.bl hown hal
      have hb1 := hbr.tr hal
      obtain ⟨y, hy⟩ : ∃ y, wr.heap.size = y := ⟨_, rfl⟩
      rw [hy] at hX hne x0
      clear hcc hx hO hown hRR hrg
      rcases ig with ⟨hi, -, -⟩ | ⟨j, hi, hj, -, -, -⟩
      · rw [set1_no (x := ⟨n, u⟩) hi] at hst
        rw [hi] at PL
        clear hi
        by_cases h8 : O.length < 8
        · rw [if_pos h8] at hst
          have d8 : decide ((O.length : Int) < 8) = true := decide_eq_true (by omega)
          replace hst := Lib.hid hst
          replace hown1 := Lib.hid hown1
          replace hb1 := Lib.hid hb1
          replace hbr := Lib.hid hbr
          replace hal := Lib.hid hal
          replace hX := Lib.hid hX
          replace PL := Lib.hid PL
          go_wp2_with fail
          with_reducible refine (PL.out).mono ?_
          rintro e w2 ⟨rfl, hn⟩
          have hX2 := blk_bl hX.out hn
          have hown2 := OwnB.bl hown1.out hn
          replace hown2 : w2.ownsRow w.heap.size 49 2 (.slice ra O.length rcap) O.length (flatB hB O) := hown2
          have hb2 := hb1.out.tr hn
          have y0 := cell_at hX2 0
          have y1 := cell_at hX2 1
          simp only [List.getElem?_toArray, List.getElem?_cons_succ, List.getElem?_cons_zero] at y0 y1
          have hbs2 := hb2.size
          clear hX2 hn
          replace hown2 := Lib.hid hown2
          replace hb2 := Lib.hid hb2
          go_wp2_with (at_builtin; refine wpList_append_row rfl _ _ 23 rfl w.heap.size 49 iu (.agg #[S ByteArray.empty, S ByteArray.empty]) 2 32 Try.underlying23 hiu zu0 zu1 zu2 rfl (by decide) _ O.length (flatB hB O) rfl hown2.out #[S n, S u] _ rfl (by intro u hu; simp at hu; rcases hu with rfl | rfl <;> rfl) 1 (by first | rfl | simp [Act.eval, Act.put]) (by omega) (by omega) (by omega) ?_)
          intro b' cap' w7 hown7 hgrow7
          have hb7 := hb2.out.grown hgrow7 (fun k hk => (hown2.out.lt k hk).1)
          clear hgrow7
          replace hown7 := Lib.hid hown7
          replace hb7 := Lib.hid hb7
          go_wp2_with fail
          go_roundw
          case rel => exact ⟨k + 1, by omega, by first | rfl | go_num, by rw [hst.out]; unfold OwnB; rw [flatB_snoc, List.length_append]; exact hown7.out, hb7.out⟩
          case measure => simp [intOf] <;> omega
        · rw [if_neg h8] at hst
          have d8 : decide ((O.length : Int) < 8) = false := decide_eq_false (by omega)
          replace hst := Lib.hid hst
          replace hown1 := Lib.hid hown1
          replace hb1 := Lib.hid hb1
          replace hbr := Lib.hid hbr
          replace hal := Lib.hid hal
          replace hX := Lib.hid hX
          replace PL := Lib.hid PL
          go_wp2_with fail
          with_reducible refine (PL.out).mono ?_
          rintro e w2 ⟨rfl, hn⟩
          have hown2 := OwnB.bl hown1.out hn
          have hb2 := hb1.out.tr hn
          clear hn
          replace hown2 := Lib.hid hown2
          replace hb2 := Lib.hid hb2
          go_wp2_with fail
          go_roundw
          case rel => exact ⟨k + 1, by omega, by first | rfl | go_num, by rw [hst.out]; exact hown2.out, hb2.out⟩
          case measure => simp [intOf] <;> omega
      · rw [set1_at (x := ⟨n, u⟩) hi] at hst
        rw [hi] at PL
        have dj : decide ((j : Int) ≥ 0) = true := decide_eq_true (by omega)
        clear hi
        replace hst := Lib.hid hst
        replace hown1 := Lib.hid hown1
        replace hb1 := Lib.hid hb1
        replace hbr := Lib.hid hbr
        replace hal := Lib.hid hal
        replace hX := Lib.hid hX
        replace PL := Lib.hid PL
        go_wp2_with fail
        with_reducible refine (PL.out).mono ?_
        rintro e w2 ⟨rfl, hn⟩
        have hX2 := blk_bl hX.out hn
        have hown2 := OwnB.bl hown1.out hn
        replace hown2 : w2.ownsRow w.heap.size 49 2 (.slice ra O.length rcap) O.length (flatB hB O) := hown2
        have hb2 := hb1.out.tr hn
        have y1 := cell_at hX2 1
        simp only [List.getElem?_toArray, List.getElem?_cons_succ, List.getElem?_cons_zero] at y1
        obtain ⟨g, hrag⟩ : ∃ g, ra = some ⟨g, 0, none⟩ := by
          rcases hown2.2 with ⟨h1, h2⟩ | ⟨g, cap, cur, h1, -⟩
          · omega
          · cases h1; exact ⟨_, rfl⟩
        subst hrag
        obtain ⟨cur, hcur, hbg, z1, z0⟩ := own_cells hown2 hj
        have zf := free_at hcur (j * 2 + 1)
        obtain ⟨hown3, hg3⟩ := own_set u hown2 hj
        have hb3 := hb2.grown hg3 (fun k hk => by cases hk; exact hbg)
        clear hX2 hn hcur z0 hown2 hb2 hg3
        replace hown3 := Lib.hid hown3
        replace hb3 := Lib.hid hb3
        go_wp2_with fail
        go_roundw
        case rel => exact ⟨k + 1, by omega, by first | rfl | go_num, by rw [hst.out]; unfold OwnB; rw [List.length_set]; exact hown3.out, hb3.out⟩
        case measure => simp [intOf] <;> omega
    · obtain rfl : k = B.length := by omega
      rw [List.take_length] at hown
      replace hown := Lib.hid hown
      replace hbr := Lib.hid hbr
      go_wp2_with fail
      go_ret
      exact ⟨_, rfl, hown.out, hbr.out⟩
end Go.Proofs.Ytnmehmlenbbfbaa.heads
