/-
  The acts of layer 24, and how much room their row has.
-/
import Derived.Test.YtifmoekgnbgnmaaWinG
import Derived.Test.YtifmoekgnbgnmaaWinH
namespace Go.Proofs.Ytifmoekgnbgnmaa.lease
open Go.ChangeShapes Go.WideShapes Go.ChangeAt Go.RowKit
set_option linter.unusedVariables false
set_option linter.unusedSimpArgs false

theorem own_two {w : World} {base n size : Nat} {e : TypeId} {v : Value} {xs : List Value} (h : w.ownsRow base e size v n xs) (hsz : 0 < size) : (v = .slice none 0 0 ∧ n = 0) ∨ ∃ g cap cur, v = .slice (some ⟨g, 0, none⟩) n cap ∧ base ≤ g ∧ w.heap[g]? = some (.cells cur e (0, 0)) ∧ (n ≤ cap ∧ cap ≤ 9223372036854775807) ∧ ∀ j, j < n * size → cur[j]? = xs[j]? := by
  obtain ⟨h1, h2⟩ := h
  rcases h2 with ⟨rfl, rfl⟩ | ⟨g, cap, cur, rfl, h3, h4, h5, h6, h7, h8⟩
  · exact Or.inl ⟨rfl, rfl⟩
  · refine Or.inr ⟨g, cap, cur, rfl, h3, h4, ⟨h5, h6⟩, fun j hj => ?_⟩
    rw [← h8, List.getElem?_take_of_lt hj]
    simp
theorem getD_memA (A : List AC) (i : Nat) (h : i < A.length) : A.getD i (0, 0, 0) ∈ A := by
  rw [List.getD_eq_getElem?_getD, List.getElem?_eq_getElem h]; exact List.getElem_mem h
theorem okAs_drop {A : List AC} (h : okAs A) (k : Nat) : okAs (A.drop k) := by
  obtain ⟨h1, h2, h3⟩ := h
  exact ⟨by rw [List.length_drop]; omega, fun x hx => h2 x (List.mem_of_mem_drop hx), h3.sublist (List.drop_sublist k A)⟩
def ActsD2 (w : World) : Ending → World → Prop := fun e w' => ∃ a cap g A, e = .returned (.slice a A.length cap) ∧ okAs A ∧ w.heap.size ≤ g ∧ ARow w' g a A ∧ ((a = none ∧ A.length = 0 ∧ cap = 0) ∨ (a = some ⟨g, 0, none⟩ ∧ A.length ≤ cap ∧ cap ≤ 9223372036854775807)) ∧ Bl w w'
set_option maxHeartbeats 2000000 in
theorem acts_cap (z : List Int) (v : Value) (w : World) (hv : IntsAt w v z) (hz : i64ok z) (hm : z.length ≤ maxLen) :
    Calls Try.prog 19 #[v] w (ActsD2 w) := by
  obtain ⟨iu, hiu, zu0, zu1, zu2⟩ := info_parts infoA
  obtain ⟨a, cap, rfl, R⟩ := rd_any hv
  unfold maxLen at hm
  obtain ⟨K, hK⟩ : ∃ K, z.length = K := ⟨_, rfl⟩
  rw [hK] at R hm ⊢
  have hzz : ∀ k, k < K → -9223372036854775808 ≤ z.getD k 0 ∧ z.getD k 0 ≤ 9223372036854775807 := fun k hk => hz _ (getD_mem z k 0 (by omega))
  replace R := Lib.hid R; replace hzz := Lib.hid hzz
  clear hv hK hz
  go_enter Try.func19, Try.ntmps19
  go_wp2_with fail
  go_loopw [3, 4, 5] (fun o t i wr => ∃ (k : Nat) (tt : Int) (A : List AC), k ≤ K ∧ k ≤ 60 ∧ i = I k ∧ t = I tt ∧ A.length = k ∧ 0 ≤ tt ∧ tt ≤ 3 * k ∧ (∀ x ∈ A, okA x ∧ x.2.1 ≤ tt) ∧ A.Pairwise (fun x y => x.2.1 ≤ y.2.1) ∧ wr.ownsRow w.heap.size 42 3 o k (flat A) ∧ Bl w wr) (fun _ _ i _ => K - (intOf i).toNat)
  case atStart => exact ⟨0, 0, [], by omega, by omega, rfl, rfl, rfl, by omega, by omega, fun x hx => by simp at hx, List.Pairwise.nil, World.ownsRow_nil _ _ _ _, Bl.rfl' _⟩
  case round =>
    obtain ⟨k, tt, A, hkK, hk1, rfl, rfl, hAl, ht0, ht1, hA, hP, hown, hbr⟩ := hrel
    by_cases hlt : k < K ∧ k < 60
    · obtain ⟨hlt, hlt2⟩ := hlt
      obtain ⟨b, off, rfl, hce⟩ := R.out wr hbr k hlt
      unfold icell at hce
      obtain ⟨y, hy⟩ : ∃ y, z.getD k 0 = y := ⟨_, rfl⟩
      have hyb := hzz.out k hlt
      rw [hy] at hce hyb
      clear hy
      have A0 := fun w => around_any y 100000 w hyb.1 hyb.2 (by omega) (by omega)
      have k0 := around_lo y 100000 (by omega); have k1 := around_hi y 100000 (by omega)
      obtain ⟨q, hq⟩ : ∃ t, around y 100000 = t := ⟨_, rfl⟩
      rw [hq] at A0 k0 k1
      replace A0 := Lib.hid A0
      clear hq hyb
      replace hA := Lib.hid hA
      by_cases h5 : q % 5 = 0
      · have e5 : (q % 5 == 0) = true := by simp [h5]
        by_cases h24 : q / 60 % 25 = 24
        · have e24 : (q / 60 % 25 == 24) = true := by simp [h24]
          go_wp2_with fail
          refine (A0.out _).mono ?_
          rintro e w1 ⟨rfl, rfl⟩
          have hbs := hbr.size
          have hown1 := hown.alloc (.cells #[I 2, I (tt + q / 5 % 4), I (q / 20 % 3)] 42)
          have hsz : (wr.alloc (.cells #[I 2, I (tt + q / 5 % 4), I (q / 20 % 3)] 42)).heap.size = wr.heap.size + 1 := by simp
          go_wp2_with (at_builtin; refine wpList_append_row rfl _ _ 39 rfl w.heap.size 42 iu (.agg #[I 0, I 0, I 0]) 3 24 Try.underlying39 hiu zu0 zu1 zu2 rfl (by decide) _ k (flat A) rfl hown1 #[I 2, I (tt + q / 5 % 4), I (q / 20 % 3)] _ rfl (by intro u hu; simp at hu; rcases hu with rfl | rfl | rfl <;> rfl) 1 (by rw [hsz]; rfl) (by omega) (by omega) (by rw [hsz]; omega) ?_)
          intro b' cap' w1 hown' hgrow
          have hb1 : Bl w w1 := (hbr.al _).grown hgrow (fun k hk => (hown1.lt k hk).1)
          clear hown hown1 hgrow hce hbr
          go_wp2_with fail
          go_roundw
          case rel =>
            refine ⟨k + 1, tt + q / 5 % 4, A ++ [(2, tt + q / 5 % 4, q / 20 % 3)], by omega, by omega, by go_num, rfl, by simp [hAl], by omega, by omega, ?_, ?_, by rw [flat_app]; exact hown', hb1⟩
            · intro x hx
              rcases List.mem_append.1 hx with hx | hx
              · have := hA.out x hx; exact ⟨this.1, by omega⟩
              · simp at hx; subst hx; exact ⟨⟨Or.inr rfl, by simp only; omega, by simp only; omega, by simp only; omega, by simp only; omega⟩, by simp only; omega⟩
            · refine List.pairwise_append.2 ⟨hP, List.pairwise_singleton _ _, fun x hx y hy => ?_⟩
              simp at hy; subst hy
              have := (hA.out x hx).2
              simp only; omega
          case measure => simp [intOf]; omega
        · have e24 : (q / 60 % 25 == 24) = false := beq_eq_false_iff_ne.2 h24
          go_wp2_with fail
          refine (A0.out _).mono ?_
          rintro e w1 ⟨rfl, rfl⟩
          have hbs := hbr.size
          have hown1 := hown.alloc (.cells #[I 0, I (tt + q / 5 % 4), I (q / 20 % 3)] 42)
          have hsz : (wr.alloc (.cells #[I 0, I (tt + q / 5 % 4), I (q / 20 % 3)] 42)).heap.size = wr.heap.size + 1 := by simp
          go_wp2_with (at_builtin; refine wpList_append_row rfl _ _ 39 rfl w.heap.size 42 iu (.agg #[I 0, I 0, I 0]) 3 24 Try.underlying39 hiu zu0 zu1 zu2 rfl (by decide) _ k (flat A) rfl hown1 #[I 0, I (tt + q / 5 % 4), I (q / 20 % 3)] _ rfl (by intro u hu; simp at hu; rcases hu with rfl | rfl | rfl <;> rfl) 1 (by rw [hsz]; rfl) (by omega) (by omega) (by rw [hsz]; omega) ?_)
          intro b' cap' w1 hown' hgrow
          have hb1 : Bl w w1 := (hbr.al _).grown hgrow (fun k hk => (hown1.lt k hk).1)
          clear hown hown1 hgrow hce hbr
          go_wp2_with fail
          go_roundw
          case rel =>
            refine ⟨k + 1, tt + q / 5 % 4, A ++ [(0, tt + q / 5 % 4, q / 20 % 3)], by omega, by omega, by go_num, rfl, by simp [hAl], by omega, by omega, ?_, ?_, by rw [flat_app]; exact hown', hb1⟩
            · intro x hx
              rcases List.mem_append.1 hx with hx | hx
              · have := hA.out x hx; exact ⟨this.1, by omega⟩
              · simp at hx; subst hx; exact ⟨⟨Or.inl rfl, by simp only; omega, by simp only; omega, by simp only; omega, by simp only; omega⟩, by simp only; omega⟩
            · refine List.pairwise_append.2 ⟨hP, List.pairwise_singleton _ _, fun x hx y hy => ?_⟩
              simp at hy; subst hy
              have := (hA.out x hx).2
              simp only; omega
          case measure => simp [intOf]; omega
      · have e5 : (q % 5 == 0) = false := beq_eq_false_iff_ne.2 h5
        by_cases h24 : q / 60 % 25 = 24
        · have e24 : (q / 60 % 25 == 24) = true := by simp [h24]
          go_wp2_with fail
          refine (A0.out _).mono ?_
          rintro e w1 ⟨rfl, rfl⟩
          have hbs := hbr.size
          have hown1 := hown.alloc (.cells #[I 2, I (tt), I (q / 20 % 3)] 42)
          have hsz : (wr.alloc (.cells #[I 2, I (tt), I (q / 20 % 3)] 42)).heap.size = wr.heap.size + 1 := by simp
          go_wp2_with (at_builtin; refine wpList_append_row rfl _ _ 39 rfl w.heap.size 42 iu (.agg #[I 0, I 0, I 0]) 3 24 Try.underlying39 hiu zu0 zu1 zu2 rfl (by decide) _ k (flat A) rfl hown1 #[I 2, I (tt), I (q / 20 % 3)] _ rfl (by intro u hu; simp at hu; rcases hu with rfl | rfl | rfl <;> rfl) 1 (by rw [hsz]; rfl) (by omega) (by omega) (by rw [hsz]; omega) ?_)
          intro b' cap' w1 hown' hgrow
          have hb1 : Bl w w1 := (hbr.al _).grown hgrow (fun k hk => (hown1.lt k hk).1)
          clear hown hown1 hgrow hce hbr
          go_wp2_with fail
          go_roundw
          case rel =>
            refine ⟨k + 1, tt, A ++ [(2, tt, q / 20 % 3)], by omega, by omega, by go_num, rfl, by simp [hAl], by omega, by omega, ?_, ?_, by rw [flat_app]; exact hown', hb1⟩
            · intro x hx
              rcases List.mem_append.1 hx with hx | hx
              · have := hA.out x hx; exact ⟨this.1, by omega⟩
              · simp at hx; subst hx; exact ⟨⟨Or.inr rfl, by simp only; omega, by simp only; omega, by simp only; omega, by simp only; omega⟩, by simp only; omega⟩
            · refine List.pairwise_append.2 ⟨hP, List.pairwise_singleton _ _, fun x hx y hy => ?_⟩
              simp at hy; subst hy
              have := (hA.out x hx).2
              simp only; omega
          case measure => simp [intOf]; omega
        · have e24 : (q / 60 % 25 == 24) = false := beq_eq_false_iff_ne.2 h24
          go_wp2_with fail
          refine (A0.out _).mono ?_
          rintro e w1 ⟨rfl, rfl⟩
          have hbs := hbr.size
          have hown1 := hown.alloc (.cells #[I 0, I (tt), I (q / 20 % 3)] 42)
          have hsz : (wr.alloc (.cells #[I 0, I (tt), I (q / 20 % 3)] 42)).heap.size = wr.heap.size + 1 := by simp
          go_wp2_with (at_builtin; refine wpList_append_row rfl _ _ 39 rfl w.heap.size 42 iu (.agg #[I 0, I 0, I 0]) 3 24 Try.underlying39 hiu zu0 zu1 zu2 rfl (by decide) _ k (flat A) rfl hown1 #[I 0, I (tt), I (q / 20 % 3)] _ rfl (by intro u hu; simp at hu; rcases hu with rfl | rfl | rfl <;> rfl) 1 (by rw [hsz]; rfl) (by omega) (by omega) (by rw [hsz]; omega) ?_)
          intro b' cap' w1 hown' hgrow
          have hb1 : Bl w w1 := (hbr.al _).grown hgrow (fun k hk => (hown1.lt k hk).1)
          clear hown hown1 hgrow hce hbr
          go_wp2_with fail
          go_roundw
          case rel =>
            refine ⟨k + 1, tt, A ++ [(0, tt, q / 20 % 3)], by omega, by omega, by go_num, rfl, by simp [hAl], by omega, by omega, ?_, ?_, by rw [flat_app]; exact hown', hb1⟩
            · intro x hx
              rcases List.mem_append.1 hx with hx | hx
              · have := hA.out x hx; exact ⟨this.1, by omega⟩
              · simp at hx; subst hx; exact ⟨⟨Or.inl rfl, by simp only; omega, by simp only; omega, by simp only; omega, by simp only; omega⟩, by simp only; omega⟩
            · refine List.pairwise_append.2 ⟨hP, List.pairwise_singleton _ _, fun x hx y hy => ?_⟩
              simp at hy; subst hy
              have := (hA.out x hx).2
              simp only; omega
          case measure => simp [intOf]; omega
    · by_cases h1 : k < K
      · obtain rfl : k = 60 := by omega
        go_wp2_with fail
        go_ret
        rcases own_two hown (by omega) with ⟨rfl, hz0⟩ | ⟨g, cap', cur, rfl, hg, h2, h3, h4⟩
        · refine ⟨none, 0, w.heap.size, A, by rw [hAl]; first | rfl | (rw [hz0]; rfl), ⟨by omega, fun x hx => (hA x hx).1, hP⟩, Nat.le_refl _, fun hl => by omega, Or.inl ⟨rfl, by omega, rfl⟩, hbr⟩
        · refine ⟨_, cap', g, A, by rw [hAl]; rfl, ⟨by omega, fun x hx => (hA x hx).1, hP⟩, hg, fun hl => ⟨rfl, cur, h2, fun i hi => ?_⟩, Or.inr ⟨rfl, by omega, h3.2⟩, hbr⟩
          obtain ⟨q1, q2, q3⟩ := flat_get A i hi
          rw [h4 _ (by omega), h4 _ (by omega), h4 _ (by omega)]
          exact ⟨q1, q2, q3⟩
      · obtain rfl : k = K := by omega
        go_wp2_with fail
        go_ret
        rcases own_two hown (by omega) with ⟨rfl, hz0⟩ | ⟨g, cap', cur, rfl, hg, h2, h3, h4⟩
        · refine ⟨none, 0, w.heap.size, A, by rw [hAl]; first | rfl | (rw [hz0]; rfl), ⟨by omega, fun x hx => (hA x hx).1, hP⟩, Nat.le_refl _, fun hl => by omega, Or.inl ⟨rfl, by omega, rfl⟩, hbr⟩
        · refine ⟨_, cap', g, A, by rw [hAl]; rfl, ⟨by omega, fun x hx => (hA x hx).1, hP⟩, hg, fun hl => ⟨rfl, cur, h2, fun i hi => ?_⟩, Or.inr ⟨rfl, by omega, h3.2⟩, hbr⟩
          obtain ⟨q1, q2, q3⟩ := flat_get A i hi
          rw [h4 _ (by omega), h4 _ (by omega), h4 _ (by omega)]
          exact ⟨q1, q2, q3⟩
end Go.Proofs.Ytifmoekgnbgnmaa.lease
