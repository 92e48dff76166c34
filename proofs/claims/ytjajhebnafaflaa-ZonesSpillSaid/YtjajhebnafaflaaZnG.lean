/-
  Package zones: Among, behind its question.
-/
import Derived.Test.YtjajhebnafaflaaZnF
namespace Go.Proofs.Ytjajhebnafaflaa.zones
open Go.ChangeShapes Go.WideShapes Go.ChangeAt Go.RowKit Go.Shelf Go.Sort
set_option linter.unusedVariables false
set_option linter.unusedSimpArgs false
attribute [local go_sem] Oper.semAt_some

def amongP (R : List En) (Z : List Int) (z pc d : Int) : En → Bool := if panicF R Z pc then alwaysF else amongF Z z (decide (d < homeF R Z z))
def amongL (R : List En) (Z : List Int) (z pc d : Int) : List Int := srt (evZ (amongP R Z z pc d) R R.length)

abbrev nThose : Nat := 34
theorem entThose : ∀ args w, (callFunc nThose args).run Try.prog w = .ok (.enter nThose args) w := enters_of Try.func34 (by kernel_rfl) rfl
abbrev fAmong (b c : Nat) : Value := .func (.func 29) #[] #[.pointer (some ⟨b, 0, none⟩), .pointer (some ⟨b + 1, 0, none⟩), .pointer (some ⟨c, 0, none⟩)]
abbrev fAlways : Value := .func (.func 28) #[] #[]
theorem infoI : (Try.prog.info? 3).map (fun i => (i.zero, i.size, i.bytes)) = some (some (I 0), 1, 8) := by kernel_rfl
theorem own_no {w : World} {base n r : Nat} {e : TypeId} {size : Nat} {v : Value} {xs : List Value} {o : Obj} (h : w.ownsRow base e size v n xs) (hr : w.heap[r]? = some o) (hc : o.isCells = false) : v.ownBlock ≠ some r := by
  rcases h.2 with ⟨rfl, _⟩ | ⟨g, cap, cur, rfl, hb, hg, _⟩
  · simp [Value.ownBlock]
  · intro e
    simp only [Value.ownBlock, Option.some.injEq] at e
    subst e
    rw [hg] at hr
    cases hr
    cases hc
theorem holds2_own {β : Type} (n₀ B : Nat) (t e : TypeId) (size : Nat) (k : β → Nat) (f : β → List Value) (b2 : Nat) : OwnFrom b2 (fun s W => ∃ v, Boxed W B t v ∧ W.ownsRow n₀ e size v (k s) (f s)) := fun s X Y row h hg hr => by
  obtain ⟨v, h1, h2⟩ := h
  obtain ⟨v', h1', h2', -⟩ := holdsRow_own n₀ B t e size k f (fun _ _ => True) s X Y row ⟨v, h1, h2, trivial⟩ hg (fun r e => (hr r e).2)
  exact ⟨v', h1', h2'⟩
theorem own_base {w : World} {base b' n : Nat} {e : TypeId} {size : Nat} {v : Value} {xs : List Value} (h : w.ownsRow base e size v n xs) (hb : b' ≤ base) : w.ownsRow b' e size v n xs := by
  obtain ⟨h1, h2⟩ := h
  refine ⟨h1, ?_⟩
  rcases h2 with h2 | ⟨g, cap, cur, hv, hb', rest⟩
  · exact Or.inl h2
  · exact Or.inr ⟨g, cap, cur, hv, Nat.le_trans hb hb', rest⟩
theorem one_cell (W : World) (x : Int) (T : TypeId) : ∀ j u, ([I x] : List Value)[j]? = some u → (W.alloc (.cells #[I x] T)).cell? ((⟨W.heap.size, 0, none⟩ : Addr).add j) = some u := by
  intro j u hj
  rw [add_plain, cell_at (heap_alloc_new W (.cells #[I x] T))]
  simpa using hj

set_option maxRecDepth 100000 in
set_option maxHeartbeats 4000000 in
theorem among_any (v : Value) (R : List En) (u : Value) (Z : List Int) (z pc d : Int) (w : World) (hv : EndsAt w v R) (hu : IntsAt w u Z) (hm : Z.length ≤ maxLen) (p0 : 0 ≤ pc) (p1 : pc ≤ 1000) :
    Calls Try.prog 15 #[v, u, I z, I pc, I d] w fun e w' => ∃ x, e = .returned x ∧ w'.ownsRow w.heap.size 3 1 x (amongL R Z z pc d).length (is (amongL R Z z pc d)) ∧ Bl w w' := by
  obtain ⟨iu, hiu, zu0, zu1, zu2⟩ := info_parts infoI
  obtain ⟨ua, uc, rfl⟩ := ints_slice hu
  generalize hue : Value.slice ua Z.length uc = u at hu
  obtain ⟨ea, eg, eo, ec, rfl, hv1⟩ := hv
  replace hv : EndsAt w (.slice ea R.length ec) R := ⟨ea, eg, eo, ec, rfl, hv1⟩
  obtain ⟨hr, hg, hl⟩ := hv1
  have n0 := heap_alloc_new w (.cells #[u] 22)
  have n1 := heap_alloc_new (w.alloc (.cells #[u] 22)) (.cells #[I z] 3)
  replace n0 := blk_bl n0 ((Bl.rfl' _).al (.cells #[I z] 3))
  simp only [World.size_alloc] at n1
  have hb2 := ((Bl.rfl' w).al (.cells #[u] 22)).al (.cells #[I z] 3)
  have PN := panic_any (.slice ea R.length ec) R u Z pc _ (hv.bl hb2) (Rd.below hu hb2) hm p0 p1
  have HM := fun X (h : Bl ((w.alloc (.cells #[u] 22)).alloc (.cells #[I z] 3)) X) => home_any (.slice ea R.length ec) R u Z z X ((hv.bl hb2).bl h) (Rd.below (Rd.below hu hb2) h) hm
  have hU := fun X (h : Bl ((w.alloc (.cells #[u] 22)).alloc (.cells #[I z] 3)) X) => Rd.below (Rd.below hu hb2) h
  have c1 := fun X (h : Bl ((w.alloc (.cells #[u] 22)).alloc (.cells #[I z] 3)) X) => cell_at (blk_bl n0 h) 0
  have c2 := fun X (h : Bl ((w.alloc (.cells #[u] 22)).alloc (.cells #[I z] 3)) X) => cell_at (blk_bl n1 h) 0
  simp only [List.getElem?_toArray, List.getElem?_cons_zero] at c1 c2
  have hsz : ((w.alloc (.cells #[u] 22)).alloc (.cells #[I z] 3)).heap.size = w.heap.size + 2 := by simp
  subst hue
  unfold amongL
  unfold amongP
  obtain ⟨pn, hpn⟩ : ∃ z_, (panicF R Z pc) = z_ := ⟨_, rfl⟩
  rw [hpn] at PN
  simp only [hpn]
  obtain ⟨h, hh⟩ : ∃ z_, (homeF R Z z) = z_ := ⟨_, rfl⟩
  simp only [hh] at HM
  simp only [hh]
  clear hh
  obtain ⟨hm', hhm⟩ : ∃ z_, (decide (d < h)) = z_ := ⟨_, rfl⟩
  simp only [hhm]
  replace PN := Lib.hid PN
  replace HM := Lib.hid HM
  replace c1 := Lib.hid c1
  replace c2 := Lib.hid c2
  replace n0 := Lib.hid n0
  replace n1 := Lib.hid n1
  replace hb2 := Lib.hid hb2
  replace hU := Lib.hid hU
  replace hr := Lib.hid hr
  replace hg := Lib.hid hg
  replace hv := Lib.hid hv
  clear hu hpn
  refine (callsIn_wide (n := 6)).1 ?_
  refine callsIn_of_wp_marks Try.func15 rfl trivial ?_ rfl
  simp only [Try.ntmps15, List.size_toArray, List.length_cons, List.length_nil, Nat.reduceAdd, Nat.reduceSub, Array.replicate_succ, Array.replicate_zero, List.push_toArray, List.append_toArray, List.nil_append, List.cons_append]
  cases pn with
  | true =>
    simp only [↓reduceIte]
    gi_wp2_with (refine ⟨trivial, ?_⟩; gi_at_call 17; refine (callsIn_wide.2 PN.out).mono ?_; rintro e W2 ⟨rfl, hb3⟩)
    refine ⟨trivial, (callsIn_wide.2 (those_any _ _ _ _ _ _)).mono ?_⟩
    rintro e w' ⟨rfl, rfl⟩
    have hW2 := hb2.out.tr hb3
    have hP := isAlways W2
    replace hb3 := Lib.hid hb3
    replace hW2 := Lib.hid hW2
    replace hP := Lib.hid hP
    gi_wp2
    have hbW : Bl w W2 := hW2.out
    have m0 := heap_alloc_new W2 (.cells #[.slice none 0 0] 22)
    have m1 := heap_alloc_new (W2.alloc (.cells #[.slice none 0 0] 22)) (.cells #[.slice ea R.length ec] 23)
    have m2 := heap_alloc_new ((W2.alloc (.cells #[.slice none 0 0] 22)).alloc (.cells #[.slice ea R.length ec] 23)) (.cells #[fAlways] 38)
    replace m1 := blk_bl m1 ((Bl.rfl' _).al (.cells #[fAlways] 38))
    simp only [World.size_alloc] at m1 m2
    have bS := ((Boxed.new W2 22 (.slice none 0 0)).alloc (.cells #[.slice ea R.length ec] 23)).alloc (.cells #[fAlways] 38)
    have hB0 : Bl W2 (((W2.alloc (.cells #[.slice none 0 0] 22)).alloc (.cells #[.slice ea R.length ec] 23)).alloc (.cells #[fAlways] 38)) := (((Bl.rfl' _).al _).al _).al _
    have hs0 : (((W2.alloc (.cells #[.slice none 0 0] 22)).alloc (.cells #[.slice ea R.length ec] 23)).alloc (.cells #[fAlways] 38)).heap.size = W2.heap.size + 3 := by simp
    have hws := hbW.size
    obtain ⟨W0, hW0⟩ : ∃ W0, ((W2.alloc (.cells #[.slice none 0 0] 22)).alloc (.cells #[.slice ea R.length ec] 23)).alloc (.cells #[fAlways] 38) = W0 := ⟨_, rfl⟩
    rw [hW0] at bS hB0 hs0 m1 m2 ⊢
    clear hW0 m0
    obtain ⟨g, hgB, hgW, hr0⟩ := row_at (B := W2.heap.size) (base := W2.heap.size + 3) (hr.out.bl hbW) (hg.out.imp id (fun h => Nat.lt_of_lt_of_le h hws)) hB0 (Nat.le_refl _) (by omega)
    have hp0 := hP.out.lift (B := W2.heap.size) (base := W2.heap.size + 3) hB0 (Nat.le_refl _) (by omega)
    refine wpIn_rangeFunc_ownH (F := Fence.wide) rfl (by omega) (gf := nThose) (lb := #[.pointer (some ⟨W2.heap.size + 1, 0, none⟩), .pointer (some ⟨W2.heap.size + 1 + 1, 0, none⟩)]) rfl trivial entThose
      (those_stops _ (by omega) (W2.heap.size + 1) (W2.heap.size + 1 + 1) W2.heap.size (W2.heap.size + 3) g eo ec ea R hl _ _ (alwaysF) W0 hgB hgW (by omega) (by omega) (by omega) (by omega) (by omega) m1 m2 hr0 hp0) (fun h k => h.tr k) (fun W l o o' _ h hc _ => KQ.put W l o o' h hc) (Below.refl _ _) (fun _ => rfl)
      (fun pre W => (∃ x, Boxed W W2.heap.size 22 x ∧ W.ownsRow (W2.heap.size + 3) 3 1 x pre.length (is pre)) ∧ Below w.heap.size w W ∧ W0.heap.size ≤ W.heap.size)
      (fun _ _ _ => False)
      (OwnFrom.and (holds2_own _ _ _ _ _ _ _ _) (OwnFrom.and (ownFrom_below (Nat.le_refl _) (by omega)) (fun _ _ _ _ h hg _ => Nat.le_trans h hg.size)))
      (fun _ _ _ _ _ hs _ _ => hs)
      ⟨⟨_, bS, World.ownsRow_nil _ _ _ _⟩, hbW.tr hB0, Nat.le_refl _⟩
      (fun x a' W => a' = { tmps := #[.slice ea R.length ec, .slice ua Z.length uc, I z, I pc, I d, undef, .pointer (some ⟨w.heap.size, 0, none⟩), .pointer (some ⟨w.heap.size + 1, 0, none⟩), undef, undef, .slice none 0 0, fAlways, undef, .pointer (some ⟨W2.heap.size, 0, none⟩), I x, .slice ea R.length ec, .slice ua Z.length uc, I pc, .bool true, .bool false, undef, undef, undef, undef, undef, undef, undef, .slice ea R.length ec, fAlways, .func (.func nThose) #[] #[.pointer (some ⟨W2.heap.size + 1, 0, none⟩), .pointer (some ⟨W2.heap.size + 1 + 1, 0, none⟩)], I x, undef, undef, undef, undef, undef, undef, undef], defers := [] }) ?hAx ?assign ?body ?done ?stop
    case hAx =>
      rintro x a' _ X Y row h3 hg hrow
      exact h3
    case assign =>
      rintro l pre x W K ⟨hi, hB⟩ hK
      gi_wp2
      exact hK _ _ (KeepsFrom.refl _ _) (KQ.rfl' _ _ _) ⟨hi, hB⟩ (by simp [encI])
    case body =>
      rintro l pre x a' W hl' - ⟨⟨y, hi, hown⟩, hB, hs3⟩ rfl hlt
      have hc := hi.cell
      have hf := hi.frozen
      have hlr := hl
      have hWs : W2.heap.size + 3 ≤ W.heap.size := by omega
      gi_wp2_with (gi_at_builtin; refine wpListIn_append_own _ rfl _ _ 22 rfl (W2.heap.size + 3) 3 iu (I 0) 1 8 Try.underlying22 hiu zu0 zu1 zu2 rfl (by decide) _ pre.length (is pre) rfl (hown.alloc _) ⟨W.heap.size, 0, none⟩ 1 1 [I x] rfl rfl ?c1 ?c2 ?c3 ?c4 ?c5 ?_)
      case c1 => exact one_cell W x _
      case c2 => (intro u hu; simp at hu; subst hu; rfl)
      case c3 => (unfold maxLen; omega)
      case c4 => omega
      case c5 => (simp; omega)
      intro v' w3 hown' hgrow _
      obtain ⟨q1, q2, q3, q4, q5⟩ := hi.appended (n₀ := W2.heap.size) (by decide) (own_base hown (by omega)) (by omega) (Nat.le_refl _) (own_base hown' (by omega)) hgrow
      have hgb : (W.alloc (.cells #[I x] 3)).grownBy w3 y.ownBlock := hgrow
      have k3 : KQ W2.heap.size (W2.heap.size + 3) W w3 := (KQ.al _ _ W (.cells #[I x] 3)).tr (KQ.gby hgb (fun k hk => (hown.lt k hk).1))
      obtain ⟨gg, cc, rfl⟩ := ownsRow_succ hown'
      have q1c := q1.cell
      have q1f := q1.frozen
      have hfin := hown'.kept (grownBy_setCell' w3 W2.heap.size (.slice (some ⟨gg, 0, none⟩) (pre.length + 1) cc)) (.inr (q1.not_row (by decide) hown').symm)
      gi_wp2
      exact ⟨q4.from _, k3.tr (KQ.set _ _ _ _), ⟨_, q2, by rw [List.length_append, List.length_singleton, is, List.map_append]; exact hfin⟩, hB.trans (q5.mono (by omega)), Nat.le_trans hs3 q4.size⟩
    case done =>
      rintro D ys W hD rfl ⟨⟨y, hb, hown⟩, hB, hs3⟩ hK
      have hc := hb.cell
      have ly := evZ_len (alwaysF) R R.length
      have SO := sort_own W _ y _ hown (by omega)
      gi_wp2
      refine ⟨trivial, (callsIn_wide.2 SO).mono ?_⟩
      rintro e w5 ⟨rfl, ho5, hg5⟩
      have hb5 : Boxed w5 W2.heap.size 22 y := Boxed.kept hb hg5 (hb.not_row (by decide) hown)
      have hc5 := hb5.cell
      have hK5 : w5.heap[D]? = some (.deferred (some [])) := (hg5.block D (lt_of_block hK) (fun e => own_no hown hK rfl e.symm)).trans hK
      have hB5 : Below w.heap.size w w5 := hB.grown hg5 (by omega) (fun k hk => by have := (hown.lt k hk).1; omega)
      gi_wp2
      refine ⟨by simp, .inl ⟨_, _, rfl, run_takeDeferred hK5, ?_⟩⟩
      exact ⟨_, results_tmp rfl _ _ _, ⟨y, rfl, own_base (ownsRow_putObj (by rw [srt_len]; exact ho5) _ hK5 rfl) (by omega), hB5.trans (belowK_b (w := w) (Nat.le_refl _) w5 D _ _ (by omega) hK5 rfl rfl)⟩⟩
    case stop =>
      rintro D c pre W _ _ h _
      exact h.elim
  | false =>
    simp only [Bool.false_eq_true, ↓reduceIte]
    gi_wp2
    refine ⟨trivial, (callsIn_wide.2 PN.out).mono ?_⟩
    rintro e W1 ⟨rfl, hb3⟩
    have d1 := c1.out _ hb3
    have d2 := c2.out _ hb3
    have H := HM.out _ hb3
    have hb5 := hb2.out.tr hb3
    replace H := Lib.hid H
    replace hb5 := Lib.hid hb5
    gi_wp2
    refine ⟨trivial, (callsIn_wide.2 H.out).mono ?_⟩
    rintro e X ⟨rfl, hb4⟩
    have hb6 := hb3.tr hb4
    have hX : Bl w X := hb5.out.tr hb4
    have hW2 := hX.al (.cells #[.bool hm'] 4)
    have hXW : Bl X (X.alloc (.cells #[.bool hm'] 4)) := (Bl.rfl' X).al _
    have hP := isAmong (X.alloc (.cells #[.bool hm'] 4)) (.slice ua Z.length uc) z Z hm' w.heap.size (w.heap.size + 1) X.heap.size (blk_bl (blk_bl n1.out hb6) hXW) (blk_bl (blk_bl n0.out hb6) hXW) (Rd.below (hU.out _ hb6) hXW) hm (heap_alloc_new X (.cells #[.bool hm'] 4))
    clear hb3 hb4 hb6 d1 d2 hX hXW
    replace hW2 := Lib.hid hW2
    replace hP := Lib.hid hP
    gi_wp2
    refine ⟨trivial, (callsIn_wide.2 (those_any _ _ _ _ _ _)).mono ?_⟩
    rintro e w' ⟨rfl, rfl⟩
    obtain ⟨W2, hW2e⟩ : ∃ W2, X.alloc (.cells #[.bool hm'] 4) = W2 := ⟨_, rfl⟩
    rw [hW2e] at hW2 hP
    have hsW := Lib.hid (show X.heap.size + 1 = W2.heap.size by rw [← hW2e]; simp)
    gi_wp2
    rw [hsW.out]
    clear hW2e hsW
    have hbW : Bl w W2 := hW2.out
    have m0 := heap_alloc_new W2 (.cells #[.slice none 0 0] 22)
    have m1 := heap_alloc_new (W2.alloc (.cells #[.slice none 0 0] 22)) (.cells #[.slice ea R.length ec] 23)
    have m2 := heap_alloc_new ((W2.alloc (.cells #[.slice none 0 0] 22)).alloc (.cells #[.slice ea R.length ec] 23)) (.cells #[fAmong w.heap.size X.heap.size] 38)
    replace m1 := blk_bl m1 ((Bl.rfl' _).al (.cells #[fAmong w.heap.size X.heap.size] 38))
    simp only [World.size_alloc] at m1 m2
    have bS := ((Boxed.new W2 22 (.slice none 0 0)).alloc (.cells #[.slice ea R.length ec] 23)).alloc (.cells #[fAmong w.heap.size X.heap.size] 38)
    have hB0 : Bl W2 (((W2.alloc (.cells #[.slice none 0 0] 22)).alloc (.cells #[.slice ea R.length ec] 23)).alloc (.cells #[fAmong w.heap.size X.heap.size] 38)) := (((Bl.rfl' _).al _).al _).al _
    have hs0 : (((W2.alloc (.cells #[.slice none 0 0] 22)).alloc (.cells #[.slice ea R.length ec] 23)).alloc (.cells #[fAmong w.heap.size X.heap.size] 38)).heap.size = W2.heap.size + 3 := by simp
    have hws := hbW.size
    obtain ⟨W0, hW0⟩ : ∃ W0, ((W2.alloc (.cells #[.slice none 0 0] 22)).alloc (.cells #[.slice ea R.length ec] 23)).alloc (.cells #[fAmong w.heap.size X.heap.size] 38) = W0 := ⟨_, rfl⟩
    rw [hW0] at bS hB0 hs0 m1 m2 ⊢
    clear hW0 m0
    obtain ⟨g, hgB, hgW, hr0⟩ := row_at (B := W2.heap.size) (base := W2.heap.size + 3) (hr.out.bl hbW) (hg.out.imp id (fun h => Nat.lt_of_lt_of_le h hws)) hB0 (Nat.le_refl _) (by omega)
    have hp0 := hP.out.lift (B := W2.heap.size) (base := W2.heap.size + 3) hB0 (Nat.le_refl _) (by omega)
    refine wpIn_rangeFunc_ownH (F := Fence.wide) rfl (by omega) (gf := nThose) (lb := #[.pointer (some ⟨W2.heap.size + 1, 0, none⟩), .pointer (some ⟨W2.heap.size + 1 + 1, 0, none⟩)]) rfl trivial entThose
      (those_stops _ (by omega) (W2.heap.size + 1) (W2.heap.size + 1 + 1) W2.heap.size (W2.heap.size + 3) g eo ec ea R hl _ _ (amongF Z z hm') W0 hgB hgW (by omega) (by omega) (by omega) (by omega) (by omega) m1 m2 hr0 hp0) (fun h k => h.tr k) (fun W l o o' _ h hc _ => KQ.put W l o o' h hc) (Below.refl _ _) (fun _ => rfl)
      (fun pre W => (∃ x, Boxed W W2.heap.size 22 x ∧ W.ownsRow (W2.heap.size + 3) 3 1 x pre.length (is pre)) ∧ Below w.heap.size w W ∧ W0.heap.size ≤ W.heap.size)
      (fun _ _ _ => False)
      (OwnFrom.and (holds2_own _ _ _ _ _ _ _ _) (OwnFrom.and (ownFrom_below (Nat.le_refl _) (by omega)) (fun _ _ _ _ h hg _ => Nat.le_trans h hg.size)))
      (fun _ _ _ _ _ hs _ _ => hs)
      ⟨⟨_, bS, World.ownsRow_nil _ _ _ _⟩, hbW.tr hB0, Nat.le_refl _⟩
      (fun x a' W => a' = { tmps := #[.slice ea R.length ec, .slice ua Z.length uc, I z, I pc, I d, undef, .pointer (some ⟨w.heap.size, 0, none⟩), .pointer (some ⟨w.heap.size + 1, 0, none⟩), undef, undef, .slice none 0 0, fAmong w.heap.size X.heap.size, .pointer (some ⟨X.heap.size, 0, none⟩), .pointer (some ⟨W2.heap.size, 0, none⟩), I x, .slice ea R.length ec, .slice ua Z.length uc, I pc, .bool false, .bool true, I d, .slice ea R.length ec, .slice ua Z.length uc, I z, I h, .bool hm', fAmong w.heap.size X.heap.size, .slice ea R.length ec, fAmong w.heap.size X.heap.size, .func (.func nThose) #[] #[.pointer (some ⟨W2.heap.size + 1, 0, none⟩), .pointer (some ⟨W2.heap.size + 1 + 1, 0, none⟩)], I x, undef, undef, undef, undef, undef, undef, undef], defers := [] }) ?hAx ?assign ?body ?done ?stop
    case hAx =>
      rintro x a' _ X Y row h3 hg hrow
      exact h3
    case assign =>
      rintro l pre x W K ⟨hi, hB⟩ hK
      gi_wp2
      exact hK _ _ (KeepsFrom.refl _ _) (KQ.rfl' _ _ _) ⟨hi, hB⟩ (by simp [encI])
    case body =>
      rintro l pre x a' W hl' - ⟨⟨y, hi, hown⟩, hB, hs3⟩ rfl hlt
      have hc := hi.cell
      have hf := hi.frozen
      have hlr := hl
      have hWs : W2.heap.size + 3 ≤ W.heap.size := by omega
      gi_wp2_with (gi_at_builtin; refine wpListIn_append_own _ rfl _ _ 22 rfl (W2.heap.size + 3) 3 iu (I 0) 1 8 Try.underlying22 hiu zu0 zu1 zu2 rfl (by decide) _ pre.length (is pre) rfl (hown.alloc _) ⟨W.heap.size, 0, none⟩ 1 1 [I x] rfl rfl ?c1 ?c2 ?c3 ?c4 ?c5 ?_)
      case c1 => exact one_cell W x _
      case c2 => (intro u hu; simp at hu; subst hu; rfl)
      case c3 => (unfold maxLen; omega)
      case c4 => omega
      case c5 => (simp; omega)
      intro v' w3 hown' hgrow _
      obtain ⟨q1, q2, q3, q4, q5⟩ := hi.appended (n₀ := W2.heap.size) (by decide) (own_base hown (by omega)) (by omega) (Nat.le_refl _) (own_base hown' (by omega)) hgrow
      have hgb : (W.alloc (.cells #[I x] 3)).grownBy w3 y.ownBlock := hgrow
      have k3 : KQ W2.heap.size (W2.heap.size + 3) W w3 := (KQ.al _ _ W (.cells #[I x] 3)).tr (KQ.gby hgb (fun k hk => (hown.lt k hk).1))
      obtain ⟨gg, cc, rfl⟩ := ownsRow_succ hown'
      have q1c := q1.cell
      have q1f := q1.frozen
      have hfin := hown'.kept (grownBy_setCell' w3 W2.heap.size (.slice (some ⟨gg, 0, none⟩) (pre.length + 1) cc)) (.inr (q1.not_row (by decide) hown').symm)
      gi_wp2
      exact ⟨q4.from _, k3.tr (KQ.set _ _ _ _), ⟨_, q2, by rw [List.length_append, List.length_singleton, is, List.map_append]; exact hfin⟩, hB.trans (q5.mono (by omega)), Nat.le_trans hs3 q4.size⟩
    case done =>
      rintro D ys W hD rfl ⟨⟨y, hb, hown⟩, hB, hs3⟩ hK
      have hc := hb.cell
      have ly := evZ_len (amongF Z z hm') R R.length
      have SO := sort_own W _ y _ hown (by omega)
      gi_wp2
      refine ⟨trivial, (callsIn_wide.2 SO).mono ?_⟩
      rintro e w5 ⟨rfl, ho5, hg5⟩
      have hb5 : Boxed w5 W2.heap.size 22 y := Boxed.kept hb hg5 (hb.not_row (by decide) hown)
      have hc5 := hb5.cell
      have hK5 : w5.heap[D]? = some (.deferred (some [])) := (hg5.block D (lt_of_block hK) (fun e => own_no hown hK rfl e.symm)).trans hK
      have hB5 : Below w.heap.size w w5 := hB.grown hg5 (by omega) (fun k hk => by have := (hown.lt k hk).1; omega)
      gi_wp2
      refine ⟨by simp, .inl ⟨_, _, rfl, run_takeDeferred hK5, ?_⟩⟩
      exact ⟨_, results_tmp rfl _ _ _, ⟨y, rfl, own_base (ownsRow_putObj (by rw [srt_len]; exact ho5) _ hK5 rfl) (by omega), hB5.trans (belowK_b (w := w) (Nat.le_refl _) w5 D _ _ (by omega) hK5 rfl rfl)⟩⟩
    case stop =>
      rintro D c pre W _ _ h _
      exact h.elim
end Go.Proofs.Ytjajhebnafaflaa.zones
