/-
  DedupOnce is true for every input: between two Puts of one key that told true there are as many ticks as the horizon, at least. No condition.
-/
import Derived.Test.YtfpapfnpppggeaaDdL
import Derived.BigQuiet
namespace Go.Proofs.Ytfpapfnpppggeaa.dedupOnce
open Go.ChangeShapes Go.WideShapes Go.ChangeAt Go.RowKit
open Go.Proofs.Ytfpapfnpppggeaa.dedup
set_option linter.unusedVariables false
set_option linter.unusedSimpArgs false

abbrev kB (x : En) : List Value := [sV x.k]
abbrev aB (x : En) : List Value := [I x.a]
theorem kB_len : ∀ x, (kB x).length = 1 := fun _ => rfl
theorem aB_len : ∀ x, (aB x).length = 1 := fun _ => rfl
theorem infoS : (Try.prog.info? 9).map (fun i => (i.zero, i.size, i.bytes)) = some (some (sV ⟨#[]⟩), 1, 16) := by kernel_rfl
theorem infoI : (Try.prog.info? 3).map (fun i => (i.zero, i.size, i.bytes)) = some (some (I 0), 1, 8) := by kernel_rfl

/-- A table that was told of W, and two rows: the keys of V, and when those of U were put. -/
def On (w0 w : World) (p : Nat) (h n : Int) (W V U : List En) (vk va : Value) (E : List (Nat × Obj)) : Prop :=
  ∃ ks : Nat → Prop, St ks w p h n (leftR h n W) ∧ OwnB kB 1 9 w w0.heap.size vk V ∧ OwnB aB 1 3 w w0.heap.size va U ∧ (∀ q, vk.ownBlock = some q → ¬ ks q) ∧ (∀ q, va.ownBlock = some q → ¬ ks q) ∧ (∀ q, ks q → w0.heap.size ≤ q ∧ q < w.heap.size) ∧ Bl w0 w ∧
    ∀ x ∈ E, w.heap[x.1]? = some x.2 ∧ ¬ ks x.1 ∧ vk.ownBlock ≠ some x.1 ∧ va.ownBlock ≠ some x.1
theorem On.blk {w0 w p h n W V U vk va E} (t : On w0 w p h n W V U vk va E) : Bl w0 w := by obtain ⟨_, _, _, _, _, _, _, h, _⟩ := t; exact h
theorem On.oth {w0 w p h n W V U vk va x E} (t : On w0 w p h n W V U vk va (x :: E)) : w.heap[x.1]? = some x.2 := by obtain ⟨_, _, _, _, _, _, _, _, h⟩ := t; exact (h x (List.mem_cons_self ..)).1
theorem On.keys {w0 w p h n W V U vk va E} (t : On w0 w p h n W V U vk va E) : OwnB kB 1 9 w w0.heap.size vk V := by obtain ⟨_, _, h, _⟩ := t; exact h
theorem On.ats {w0 w p h n W V U vk va E} (t : On w0 w p h n W V U vk va E) : OwnB aB 1 3 w w0.heap.size va U := by obtain ⟨_, _, _, h, _⟩ := t; exact h
theorem On.bl {w0 w w' p h n W V U vk va E} (t : On w0 w p h n W V U vk va E) (hb : Bl w w') : On w0 w' p h n W V U vk va E := by
  obtain ⟨ks, t1, t2, t3, t4, t5, t6, t7, t8⟩ := t
  exact ⟨ks, t1.bl hb, t2.bl hb, t3.bl hb, t4, t5, fun q hq => ⟨(t6 q hq).1, Nat.lt_of_lt_of_le (t6 q hq).2 hb.size⟩, t7.tr hb, fun x hx => ⟨blk_bl (t8 x hx).1 hb, (t8 x hx).2⟩⟩
theorem On.drop {w0 w p h n W V U vk va x E} (t : On w0 w p h n W V U vk va (x :: E)) : On w0 w p h n W V U vk va E := by
  obtain ⟨ks, t1, t2, t3, t4, t5, t6, t7, t8⟩ := t
  exact ⟨ks, t1, t2, t3, t4, t5, t6, t7, fun x hx => t8 x (List.mem_cons_of_mem _ hx)⟩
theorem On.add {w0 w w' p h n W V U vk va E} (t : On w0 w p h n W V U vk va E) (hb : Bl w w') (y : Nat) (o : Obj) (hy : w.heap.size ≤ y) (ho : w'.heap[y]? = some o) : On w0 w' p h n W V U vk va ((y, o) :: E) := by
  obtain ⟨ks, t1, t2, t3, t4, t5, t6, t7, t8⟩ := t
  refine ⟨ks, t1.bl hb, t2.bl hb, t3.bl hb, t4, t5, fun q hq => ⟨(t6 q hq).1, Nat.lt_of_lt_of_le (t6 q hq).2 hb.size⟩, t7.tr hb, fun x hx => ?_⟩
  rcases List.mem_cons.1 hx with rfl | hx
  · exact ⟨ho, fun hk => by have := (t6 _ hk).2; omega, fun hk => by have := (World.ownsRow.lt t2 _ hk).2; omega, fun hk => by have := (World.ownsRow.lt t3 _ hk).2; omega⟩
  · exact ⟨blk_bl (t8 x hx).1 hb, (t8 x hx).2⟩
theorem new_on (w0 w : World) (hb : Bl w0 w) (h : Int) : Calls Try.prog 11 #[I h] w fun e w' => ∃ p, e = .returned (ptr p) ∧ On w0 w' p h 0 [] [] [] (.slice none 0 0) (.slice none 0 0) [] :=
  (new_st w h).mono fun e w' ⟨p, h1, h2, h3⟩ => ⟨p, h1, fun q => w.heap.size ≤ q ∧ q < w'.heap.size, h2.bound (Nat.le_refl _) (fun k hk h => ⟨hk, h⟩), OwnB.nil _ _ _, OwnB.nil _ _ _, fun q hq => by simp [Value.ownBlock] at hq, fun q hq => by simp [Value.ownBlock] at hq, fun q hq => ⟨Nat.le_trans hb.size hq.1, hq.2⟩, hb.tr h3, fun x hx => by simp at hx⟩
theorem put_on {w0 w p h n W V U vk va E} (t : On w0 w p h n W V U vk va E) (hR : W.length ≤ 99999) (h0 : 1 ≤ h) (h1 : h ≤ 1000000) (now : Int) (key : ByteArray) (hn : n ≤ now) (n0 : 0 ≤ now) (n1 : now ≤ 4000000000) :
    Calls Try.prog 16 #[ptr p, I now, sV key] w fun e w' => e = .returned (.bool (!remB h now W key)) ∧ On w0 w' p h now (putR h now W key) V U vk va E := by
  obtain ⟨ks, t1, t2, t3, t4, t5, t6, t7, t8⟩ := t
  refine (put_st t1 (by have := leftR_len (h := h) (now := n) (R := W); omega) h0 h1 now key hn n0 n1).mono ?_
  rintro e w' ⟨g1, g2, g3⟩
  rw [remB_left hn] at g1
  rw [left_put hn] at g2
  exact ⟨g1, grw ks w w', g2, own_tch t2 g3 t4, own_tch t3 g3 t5, fun q hq => grw_not (t4 q hq) (World.ownsRow.lt t2 q hq).2, fun q hq => grw_not (t5 q hq) (World.ownsRow.lt t3 q hq).2, fun q hq => ⟨by
    rcases hq.1 with h | h
    · exact (t6 q h).1
    · have := t7.size; omega, hq.2⟩, t7.tch g3 (fun q hq => (t6 q hq).1), fun x hx => ⟨g3.var (t8 x hx).1 (t8 x hx).2.1, grw_not (t8 x hx).2.1 (lt_of_block (t8 x hx).1), (t8 x hx).2.2⟩⟩
/-- A key more. -/
theorem On.key {w0 w w' p h n W V U vk va E} (t : On w0 w p h n W V U vk va E) {v' : Value} (x : En) (ho : OwnB kB 1 9 w' w0.heap.size v' (V ++ [x])) (g : w.grownBy w' vk.ownBlock) (hb : ∀ q, v'.ownBlock = some q → vk.ownBlock = some q ∨ w.heap.size ≤ q) : On w0 w' p h n W (V ++ [x]) U v' va E := by
  obtain ⟨ks, t1, t2, t3, t4, t5, t6, t7, t8⟩ := t
  refine ⟨ks, t1.tch (tch_row g) (fun q h1 h2 => t4 q h2 h1), ho, World.ownsRow.kept t3 g (own_apart2 t3 t2 (by decide)), fun q hq hk => ?_, t5, fun q hq => ⟨(t6 q hq).1, Nat.lt_of_lt_of_le (t6 q hq).2 g.size⟩, t7.grown g (fun q hq => (World.ownsRow.lt t2 q hq).1), fun y hy => ⟨blk_row (t8 y hy).1 g (t8 y hy).2.2.1, (t8 y hy).2.1, fun hk => ?_, (t8 y hy).2.2.2⟩⟩
  · rcases hb q hq with h | h
    · exact t4 q h hk
    · have := (t6 q hk).2; omega
  · rcases hb _ hk with h | h
    · exact (t8 y hy).2.2.1 h
    · have := lt_of_block (t8 y hy).1; omega
/-- A tick more. -/
theorem On.at' {w0 w w' p h n W V U vk va E} (t : On w0 w p h n W V U vk va E) {v' : Value} (x : En) (ho : OwnB aB 1 3 w' w0.heap.size v' (U ++ [x])) (g : w.grownBy w' va.ownBlock) (hb : ∀ q, v'.ownBlock = some q → va.ownBlock = some q ∨ w.heap.size ≤ q) : On w0 w' p h n W V (U ++ [x]) vk v' E := by
  obtain ⟨ks, t1, t2, t3, t4, t5, t6, t7, t8⟩ := t
  refine ⟨ks, t1.tch (tch_row g) (fun q h1 h2 => t5 q h2 h1), World.ownsRow.kept t2 g (own_apart2 t2 t3 (by decide)), ho, t4, fun q hq hk => ?_, fun q hq => ⟨(t6 q hq).1, Nat.lt_of_lt_of_le (t6 q hq).2 g.size⟩, t7.grown g (fun q hq => (World.ownsRow.lt t3 q hq).1), fun y hy => ⟨blk_row (t8 y hy).1 g (t8 y hy).2.2.2, (t8 y hy).2.1, (t8 y hy).2.2.1, fun hk => ?_⟩⟩
  · rcases hb q hq with h | h
    · exact t5 q h hk
    · have := (t6 q hk).2; omega
  · rcases hb _ hk with h | h
    · exact (t8 y hy).2.2.2 h
    · have := lt_of_block (t8 y hy).1; omega


set_option maxHeartbeats 16000000 in
theorem walk {w : World} (a : Int) (l1 : -9223372036854775808 ≤ a) (u1 : a ≤ 9223372036854775807) (v0 : Value) (z0 : List Int) (hv0 : IntsAt w v0 z0) (hz0 : i64ok z0) (hm0 : z0.length ≤ maxLen) :
    Calls Try.prog 4 #[I a, v0] w fun e w' => e = .returned (.bool true) ∧ Bl w w' := by
  have A1 := Lib.hid (fun w => horizon_any a w l1 u1)
  have f0 := around_lo a 40 (by omega); have f1 := around_hi a 40 (by omega)
  obtain ⟨x, hx⟩ : ∃ z_, (around a 40) = z_ := ⟨_, rfl⟩
  rw [hx] at A1 f0 f1
  obtain ⟨h, hk⟩ : ∃ z, 1 + x = z := ⟨_, rfl⟩
  rw [hk] at A1
  have k0 : 1 ≤ h := by omega
  have k1 : h ≤ 40 := by omega
  have LV := Lib.hid lives_any
  have NW := Lib.hid (fun w' hb => new_on w w' hb h)
  obtain ⟨a0, cap0, rfl, R⟩ := rd_any hv0
  unfold maxLen at hm0
  obtain ⟨N, hN⟩ : ∃ z_, (z0.length) = z_ := ⟨_, rfl⟩
  rw [hN] at R hm0 ⊢
  have hzz : ∀ k, k < N → -9223372036854775808 ≤ z0.getD k 0 ∧ z0.getD k 0 ≤ 9223372036854775807 := fun k hk => hz0 _ (getD_mem z0 k 0 (by omega))
  obtain ⟨iu, hiu, zu0, zu1, zu2⟩ := info_parts infoS
  obtain ⟨ia, hia, za0, za1, za2⟩ := info_parts infoI
  clear hx hk l1 u1 f0 f1 hv0 hN hz0
  replace R := Lib.hid R
  replace hzz := Lib.hid hzz
  go_enter Try.func4, Try.ntmps4
  go_wp2_with fail
  with_reducible refine ((A1.out _)).mono ?_
  rintro e w' ⟨rfl, rfl⟩
  go_wp2_with fail
  with_reducible refine ((NW.out _ (Bl.rfl' _))).mono ?_
  rintro e w1 ⟨p, rfl, t1⟩
  clear NW A1
  replace t1 := Lib.hid t1
  go_wp2_with fail
  go_loopw [7, 8, 9, 10] (fun vk va nw i wr => ∃ (k : Nat) (W : List En) (t r : Int), k ≤ N ∧ k ≤ 60 ∧ i = I k ∧ nw = I t ∧ 0 ≤ t ∧ t ≤ 69 * k ∧ W.length ≤ k ∧ r ≤ t ∧ His h t W ∧ On w wr p h r W W W vk va []) (fun _ _ _ i _ => N - (intOf i).toNat)
  case atStart => exact ⟨0, [], 0, 0, by omega, by omega, rfl, rfl, by omega, by omega, by simp, by omega, ⟨⟨List.Pairwise.nil, fun x hx => by simp at hx⟩, fun x hx => by simp at hx⟩, t1.out⟩
  case round =>
    obtain ⟨k, W, t, r0, hkN, hk40, rfl, rfl, t0, t1', hWl, hrt, hH, hT⟩ := hrel
    have hbr := hT.blk
    clear t1
    by_cases hlt : k < N ∧ k < 60
    · obtain ⟨hlt, hlt2⟩ := hlt
      obtain ⟨b, off, rfl, hce⟩ := R.out wr hbr k hlt
      unfold icell at hce
      obtain ⟨y, hy⟩ : ∃ z_, (z0.getD k 0) = z_ := ⟨_, rfl⟩
      have hyb := hzz.out k hlt
      rw [hy] at hce hyb
      clear hy hzz R
      have OF := Lib.hid (of_any y wr hyb.1 hyb.2)
      have q0 := around_lo y 1000000 (by omega)
      obtain ⟨q, hq⟩ : ∃ z_, (around y 1000000) = z_ := ⟨_, rfl⟩
      rw [hq] at OF q0
      have hl := sL_le q q0
      obtain ⟨ll, hll⟩ : ∃ z_, (sL q) = z_ := ⟨_, rfl⟩
      obtain ⟨xk, hxk⟩ : ∃ z_, (sK q) = z_ := ⟨_, rfl⟩
      obtain ⟨pu, hpu⟩ : ∃ z_, (sP q) = z_ := ⟨_, rfl⟩
      rw [hll, hxk, hpu] at OF
      rw [hll] at hl
      clear hq hll hxk hpu hyb q0
      replace hT := Lib.hid hT
      replace hbr := Lib.hid hbr
      replace hH := Lib.hid hH
      go_wp2_with fail
      with_reducible refine (OF.out).mono ?_
      rintro e w2 ⟨rfl, hb2⟩
      have hT2 := hT.out.add (hb2.al (.cells #[I ll, sV xk, .bool pu] 28)) w2.heap.size _ hb2.size (heap_alloc_new _ _)
      clear hT hbr
      replace hT2 := Lib.hid hT2
      replace hb2 := Lib.hid hb2
      go_wp2_with fail
      obtain ⟨y0, hy0⟩ : ∃ z_, (w2.heap.size) = z_ := ⟨_, rfl⟩
      obtain ⟨w3, hw3⟩ : ∃ z_, (w2.alloc (.cells #[I ll, sV xk, .bool pu] 28)) = z_ := ⟨_, rfl⟩
      rw [hy0, hw3] at hT2
      rw [hy0, hw3]
      clear hy0 hw3 hb2
      obtain ⟨t2, ht2⟩ : ∃ z, t + ll = z := ⟨_, rfl⟩
      rw [ht2]
      obtain ⟨c0, c1, c2⟩ := three hT2.out.oth
      have PP := Lib.hid (put_on hT2.out (by omega) k0 (by omega) t2 xk (by omega) (by omega) (by omega))
      have hH2 := hH.out.le (b := t2) (by omega)
      have hHp := hH2.put (Int.le_refl _) (by omega) (by omega) xk
      have wt : IntKind.i64.wrap ((k : Int) + 1) = ((k + 1 : Nat) : Int) := by rw [IntKind.wrap_i64]; omega
      have hany := hH2.any xk
      cases hB : remB h t2 W xk with
      | true =>
        have hpe : putR h t2 W xk = W := by unfold putR; rw [hB]; rfl
        rw [hB, hpe] at PP
        clear hT2 hHp hany hH hB hpe
        replace wt := Lib.hid wt
        replace hH2 := Lib.hid hH2
        go_wp2_with fail
        with_reducible refine (PP.out).mono ?_
        rintro e w4 ⟨rfl, hT4⟩
        have hT5 := hT4.drop
        clear PP hT4 c0 c1 c2
        replace hT5 := Lib.hid hT5
        replace wt := wt.out
        go_wp2_with fail
        go_roundw
        case rel => exact ⟨k + 1, W, t2, t2, by omega, by omega, by go_num, rfl, by omega, by omega, by omega, by omega, hH2.out, hT5.out⟩
        case measure => simp [intOf] <;> omega
      | false =>
        have hpe : putR h t2 W xk = W ++ [⟨t2, xk⟩] := by unfold putR; rw [hB]; rfl
        rw [hB, hpe] at PP
        rw [hpe] at hHp
        rw [hB, List.any_eq_false] at hany
        have hfar : ∀ m, m < W.length → (W.getD m e0).k = xk → (W.getD m e0).a + h ≤ t2 := by
          intro m hm he
          have h1 := hany _ (dedup.getD_mem hm)
          have h2 := hH2.2 _ (dedup.getD_mem hm)
          simp only [inF, Bool.and_eq_true, decide_eq_true_eq, not_and] at h1
          have := h1 he h2
          omega
        have hti : ∀ m, m < W.length → 0 ≤ (W.getD m e0).a ∧ (W.getD m e0).a ≤ t2 := fun m hm => ⟨(hH2.1.2 _ (dedup.getD_mem hm)).1, hH2.2 _ (dedup.getD_mem hm)⟩
        clear hT2 hany hH hB hpe hH2
        replace wt := Lib.hid wt
        replace hHp := Lib.hid hHp
        replace hfar := Lib.hid hfar
        replace hti := Lib.hid hti
        go_wp2_with fail
        with_reducible refine (PP.out).mono ?_
        rintro e w4 ⟨rfl, hT4⟩
        clear PP c0 c1 c2
        obtain ⟨ka, kg, kcap, rfl, -, -, -, -⟩ := hT4.keys.row (by decide)
        obtain ⟨aa, ag, acap, rfl, -, -, -, -⟩ := hT4.ats.row (by decide)
        obtain ⟨L, hL⟩ : ∃ z_, (W.length) = z_ := ⟨_, rfl⟩
        rw [hL] at hT4 hfar hti hWl
        rw [hL]
        replace hT4 := Lib.hid hT4
        replace hL := Lib.hid hL
        go_wp2_with fail
        go_loopw [12] (fun j wr => ∃ m : Nat, m ≤ L ∧ j = I m ∧ On w wr p h t2 (W ++ [⟨t2, xk⟩]) W W (.slice ka L kcap) (.slice aa L acap) [(y0, .cells #[I ll, sV xk, .bool pu] 28)]) (fun j _ => L - (intOf j).toNat)
        case atStart => exact ⟨0, by omega, rfl, hT4.out⟩
        case round =>
          obtain ⟨m, hm, rfl, hO⟩ := hrel
          clear hT4
          obtain ⟨c0, c1, c2⟩ := three hO.oth
          by_cases hml : m < L
          · obtain ⟨ka', kg', kc', hke, -, -, -, hkr⟩ := hO.keys.row (by decide)
            obtain ⟨aa', ag', ac', hae, -, -, -, har⟩ := hO.ats.row (by decide)
            simp only [Value.slice.injEq] at hke hae
            obtain ⟨rfl, -, -⟩ := hke
            obtain ⟨rfl, -, -⟩ := hae
            obtain ⟨hk1, hck⟩ := hkr.c0 kB_len e0 m (by rw [hL.out]; exact hml)
            obtain ⟨ha1, hca⟩ := har.c0 aB_len e0 m (by rw [hL.out]; exact hml)
            subst hk1
            subst ha1
            replace hck := hck 0 (by decide)
            replace hca := hca 0 (by decide)
            have hf := hfar.out m hml
            have ht := hti.out m hml
            obtain ⟨ev, hev⟩ : ∃ z_, (W.getD m e0) = z_ := ⟨_, rfl⟩
            rw [hev] at hck hca hf ht
            obtain ⟨ea, ek⟩ := ev
            simp only [List.getElem?_cons_zero, Nat.mul_one, Nat.add_zero] at hck hca hf ht
            have wm : IntKind.i64.wrap ((m : Int) + 1) = ((m + 1 : Nat) : Int) := by rw [IntKind.wrap_i64]; omega
            have ws : IntKind.i64.wrap (t2 - ea) = t2 - ea := by rw [IntKind.wrap_i64]; omega
            clear hkr har hev
            have ke := keyEq ek xk
            replace hO := Lib.hid hO
            replace wm := Lib.hid wm
            by_cases he : ek = xk
            · have kt : (ek.toList = xk.toList) = True := by rw [ke]; simp [he]
              have kb : (ek.toList == xk.toList) = true := by rw [he]; simp
              have hd1 : decide (t2 - ea < h) = false := decide_eq_false (by have := hf he; omega)
              clear ke hf he
              go_wp2_with fail
              go_quiet (fail)
              clear c0 c1 hck hca
              replace wm := wm.out
              go_wp2_with fail
              go_roundw
              case rel => exact ⟨m + 1, by omega, by go_num, hO.out.bl (Bl.drewN _ _)⟩
              case measure => simp [intOf] <;> omega
            · have kt : (ek.toList = xk.toList) = False := by rw [ke]; simp [he]
              have kb : (ek.toList == xk.toList) = false := by rw [beq_eq_false_iff_ne]; intro h; rw [ke] at h; exact he h
              clear ke hf he
              go_wp2_with fail
              go_quiet (fail)
              clear c0 c1 hck hca
              replace wm := wm.out
              go_wp2_with fail
              go_roundw
              case rel => exact ⟨m + 1, by omega, by go_num, hO.out.bl (Bl.drewN _ _)⟩
              case measure => simp [intOf] <;> omega
          · obtain rfl : m = L := by omega
            have hbs := hO.blk.size
            have hko := hO.keys
            unfold OwnB at hko
            rw [hL.out] at hko
            replace hO := Lib.hid hO
            replace hko := Lib.hid hko
            go_wp2_with (at_builtin; refine wpList_append_rec rfl _ _ 37 rfl w.heap.size 9 iu (sV ⟨#[]⟩) 1 16 Try.underlying37 hiu zu0 zu1 zu2 rfl (by decide) _ m (flatB kB W) rfl hko.out #[sV xk] _ rfl (by intro u hu; simp at hu; subst hu; rfl) 1 rfl (by omega) (by omega) (by omega) ?_)
            intro b5 cap5 w5 hown5 hgrow5 hbn5
            have hO5 := hO.out.key ⟨t2, xk⟩ (v' := .slice (some ⟨b5, 0, none⟩) (m + 1) cap5) (by unfold OwnB; rw [List.length_append, hL.out, flatB_snoc]; exact hown5) hgrow5 (fun q hq => by simp only [Value.ownBlock, Option.some.injEq] at hq; subst hq; exact hbn5)
            clear hO hko hown5 hgrow5 hbn5 c0 c1 c2
            have hbs := hO5.blk.size
            have hao := hO5.ats
            unfold OwnB at hao
            rw [hL.out] at hao
            replace hO5 := Lib.hid hO5
            replace hao := Lib.hid hao
            go_wp2_with (at_builtin; refine wpList_append_rec rfl _ _ 22 rfl w.heap.size 3 ia (I 0) 1 8 Try.underlying22 hia za0 za1 za2 rfl (by decide) _ m (flatB aB W) rfl hao.out #[I t2] _ rfl (by intro u hu; simp at hu; subst hu; rfl) 1 rfl (by omega) (by omega) (by omega) ?_)
            intro b6 cap6 w6 hown6 hgrow6 hbn6
            have hO6 := hO5.out.at' ⟨t2, xk⟩ (v' := .slice (some ⟨b6, 0, none⟩) (m + 1) cap6) (by unfold OwnB; rw [List.length_append, hL.out, flatB_snoc]; exact hown6) hgrow6 (fun q hq => by simp only [Value.ownBlock, Option.some.injEq] at hq; subst hq; exact hbn6)
            have hO7 := hO6.drop
            clear hO5 hao hown6 hgrow6 hbn6 hO6
            replace hO7 := Lib.hid hO7
            replace wt := wt.out
            go_wp2_with fail
            go_roundw
            case rel => exact ⟨k + 1, W ++ [⟨t2, xk⟩], t2, t2, by omega, by omega, by go_num, rfl, by omega, by omega, by rw [List.length_append, hL.out]; simp; omega, by omega, hHp.out, hO7.out⟩
            case measure => simp [intOf] <;> omega
    · have hb := Lib.hid hbr
      clear hT hbr R hzz hH
      by_cases h1 : k < N
      · obtain rfl : k = 60 := by omega
        go_wp2_with fail
        with_reducible refine ((LV.out _)).mono ?_
        rintro e w11 ⟨rfl, hb11⟩
        go_wp2_with fail
        go_ret
        exact ⟨rfl, hb.out.tr hb11⟩
      · obtain rfl : k = N := by omega
        go_wp2_with fail
        with_reducible refine ((LV.out _)).mono ?_
        rintro e w11 ⟨rfl, hb11⟩
        go_wp2_with fail
        go_ret
        exact ⟨rfl, hb.out.tr hb11⟩
end Go.Proofs.Ytfpapfnpppggeaa.dedupOnce
