/-
  The acts of layer 24, made of numbers.
-/
import Derived.Test.YtifmoekgnbgnmaaLeaC
namespace Go.Proofs.Ytifmoekgnbgnmaa.lease
open Go.ChangeShapes Go.WideShapes Go.ChangeAt Go.RowKit
set_option linter.unusedVariables false
set_option linter.unusedSimpArgs false

/-- What is done, when, by whom. -/
abbrev AC : Type := Int × Int × Int
def flat : List AC → List Value
  | [] => []
  | x :: A => I x.1 :: I x.2.1 :: I x.2.2 :: flat A
theorem flat_app : ∀ A B, flat (A ++ B) = flat A ++ flat B
  | [], _ => rfl
  | x :: A, B => by simp only [List.cons_append, flat, flat_app A B]
theorem flat_len : ∀ A, (flat A).length = A.length * 3
  | [] => rfl
  | x :: A => by simp only [flat, List.length_cons, flat_len A]; omega
theorem flat_get : ∀ (A : List AC) (i : Nat), i < A.length → (flat A)[3 * i]? = some (I (A.getD i (0, 0, 0)).1) ∧ (flat A)[3 * i + 1]? = some (I (A.getD i (0, 0, 0)).2.1) ∧ (flat A)[3 * i + 2]? = some (I (A.getD i (0, 0, 0)).2.2)
  | [], i, h => by simp at h
  | x :: A, 0, _ => by simp [flat]
  | x :: A, i + 1, h => by
    have := flat_get A i (by simpa using h)
    rw [show 3 * (i + 1) = 3 * i + 3 by omega, show 3 * i + 3 + 1 = 3 * i + 1 + 3 by omega, show 3 * i + 3 + 2 = 3 * i + 2 + 3 by omega]
    simpa [flat] using this

def okA (x : AC) : Prop := (x.1 = 0 ∨ x.1 = 2) ∧ 0 ≤ x.2.1 ∧ x.2.1 ≤ 180 ∧ 0 ≤ x.2.2 ∧ x.2.2 < 3
def okAs (A : List AC) : Prop := A.length ≤ 60 ∧ (∀ x ∈ A, okA x) ∧ A.Pairwise (fun x y => x.2.1 ≤ y.2.1)
/-- The row of some acts, in its block. -/
def ARow (w : World) (g : Nat) (a : Option Addr) (A : List AC) : Prop := 0 < A.length → a = some ⟨g, 0, none⟩ ∧ ∃ cur, w.heap[g]? = some (.cells cur 42 (0, 0)) ∧ ∀ i, i < A.length → cur[3 * i]? = some (I (A.getD i (0, 0, 0)).1) ∧ cur[3 * i + 1]? = some (I (A.getD i (0, 0, 0)).2.1) ∧ cur[3 * i + 2]? = some (I (A.getD i (0, 0, 0)).2.2)
theorem ARow.kept {w w' : World} {g a A} (h : ARow w g a A) (hb : ∀ o, w.heap[g]? = some o → w'.heap[g]? = some o) : ARow w' g a A := fun hl => by
  obtain ⟨h1, cur, h2, h3⟩ := h hl
  exact ⟨h1, cur, hb _ h2, h3⟩
theorem ARow.bl {w w' : World} {g a A} (h : ARow w g a A) (hb : Bl w w') : ARow w' g a A := h.kept (fun o h => var_bl h hb)
theorem ARow.gby {w w' : World} {g a A p} (h : ARow w g a A) (hb : w.grownBy w' (some p)) (hne : g ≠ p) : ARow w' g a A := h.kept (fun o h => var_gby h hb hne)
theorem ARow.c {w : World} {g a A} (h : ARow w g a A) (i : Nat) (hi : i < A.length) : a = some ⟨g, 0, none⟩ ∧ w.cell? ⟨g, i * 3, none⟩ = some (I (A.getD i (0, 0, 0)).1) ∧ w.cell? ⟨g, i * 3 + 1, none⟩ = some (I (A.getD i (0, 0, 0)).2.1) ∧ w.cell? ⟨g, i * 3 + 2, none⟩ = some (I (A.getD i (0, 0, 0)).2.2) := by
  obtain ⟨h1, cur, h2, h3⟩ := h (by omega)
  obtain ⟨q1, q2, q3⟩ := h3 i hi
  rw [Nat.mul_comm i 3]
  exact ⟨h1, (cell_at h2 _).trans q1, (cell_at h2 _).trans q2, (cell_at h2 _).trans q3⟩
def ActsD (w : World) : Ending → World → Prop := fun e w' => ∃ a cap g A, e = .returned (.slice a A.length cap) ∧ okAs A ∧ w.heap.size ≤ g ∧ ARow w' g a A ∧ Bl w w'

theorem infoA : (Try.prog.info? 42).map (fun i => (i.zero, i.size, i.bytes)) = some (some (.agg #[I 0, I 0, I 0]), 3, 24) := by kernel_rfl

set_option maxHeartbeats 2000000 in
theorem acts_any (z : List Int) (v : Value) (w : World) (hv : IntsAt w v z) (hz : i64ok z) (hm : z.length ≤ maxLen) :
    Calls Try.prog 19 #[v] w (ActsD w) := by
  obtain ⟨iu, hiu, zu0, zu1, zu2⟩ := info_parts infoA
  obtain ⟨a, cap, rfl, R⟩ := rd_any hv
  unfold maxLen at hm
  obtain ⟨K, hK⟩ : ∃ K, z.length = K := ⟨_, rfl⟩
  rw [hK] at R hm ⊢
  have hzz : ∀ k, k < K → -9223372036854775808 ≤ z.getD k 0 ∧ z.getD k 0 ≤ 9223372036854775807 := fun k hk => hz _ (getD_mem z k 0 (by omega))
  replace R := Lib.hid R; replace hzz := Lib.hid hzz
  clear hv hK hz
  go_enter Try.func19, Try.ntmps19
  go_wp2_with fail
  go_loopw [3, 4, 5] (fun o t i wr => ∃ (k : Nat) (tt : Int) (A : List AC), k ≤ K ∧ k ≤ 60 ∧ i = I k ∧ t = I tt ∧ A.length = k ∧ 0 ≤ tt ∧ tt ≤ 3 * k ∧ (∀ x ∈ A, okA x ∧ x.2.1 ≤ tt) ∧ A.Pairwise (fun x y => x.2.1 ≤ y.2.1) ∧ wr.ownsRow w.heap.size 42 3 o k (flat A) ∧ Bl w wr) (fun _ _ i _ => K - (intOf i).toNat)
  case atStart => exact ⟨0, 0, [], by omega, by omega, rfl, rfl, rfl, by omega, by omega, fun x hx => by simp at hx, List.Pairwise.nil, World.ownsRow_nil _ _ _ _, Bl.rfl' _⟩
  case round =>
    obtain ⟨k, tt, A, hkK, hk1, rfl, rfl, hAl, ht0, ht1, hA, hP, hown, hbr⟩ := hrel
    by_cases hlt : k < K ∧ k < 60
    · obtain ⟨hlt, hlt2⟩ := hlt
      obtain ⟨b, off, rfl, hce⟩ := R.out wr hbr k hlt
      unfold icell at hce
      obtain ⟨y, hy⟩ : ∃ y, z.getD k 0 = y := ⟨_, rfl⟩
      have hyb := hzz.out k hlt
      rw [hy] at hce hyb
      clear hy
      have A0 := fun w => around_any y 100000 w hyb.1 hyb.2 (by omega) (by omega)
      have k0 := around_lo y 100000 (by omega); have k1 := around_hi y 100000 (by omega)
      obtain ⟨q, hq⟩ : ∃ t, around y 100000 = t := ⟨_, rfl⟩
      rw [hq] at A0 k0 k1
      replace A0 := Lib.hid A0
      clear hq hyb
      replace hA := Lib.hid hA
      by_cases h5 : q % 5 = 0
      · have e5 : (q % 5 == 0) = true := by simp [h5]
        by_cases h24 : q / 60 % 25 = 24
        · have e24 : (q / 60 % 25 == 24) = true := by simp [h24]
          go_wp2_with fail
          refine (A0.out _).mono ?_
          rintro e w1 ⟨rfl, rfl⟩
          have hbs := hbr.size
          have hown1 := hown.alloc (.cells #[I 2, I (tt + q / 5 % 4), I (q / 20 % 3)] 42)
          have hsz : (wr.alloc (.cells #[I 2, I (tt + q / 5 % 4), I (q / 20 % 3)] 42)).heap.size = wr.heap.size + 1 := by simp
          go_wp2_with (at_builtin; refine wpList_append_row rfl _ _ 39 rfl w.heap.size 42 iu (.agg #[I 0, I 0, I 0]) 3 24 Try.underlying39 hiu zu0 zu1 zu2 rfl (by decide) _ k (flat A) rfl hown1 #[I 2, I (tt + q / 5 % 4), I (q / 20 % 3)] _ rfl (by intro u hu; simp at hu; rcases hu with rfl | rfl | rfl <;> rfl) 1 (by rw [hsz]; rfl) (by omega) (by omega) (by rw [hsz]; omega) ?_)
          intro b' cap' w1 hown' hgrow
          have hb1 : Bl w w1 := (hbr.al _).grown hgrow (fun k hk => (hown1.lt k hk).1)
          clear hown hown1 hgrow hce hbr
          go_wp2_with fail
          go_roundw
          case rel =>
            refine ⟨k + 1, tt + q / 5 % 4, A ++ [(2, tt + q / 5 % 4, q / 20 % 3)], by omega, by omega, by go_num, rfl, by simp [hAl], by omega, by omega, ?_, ?_, by rw [flat_app]; exact hown', hb1⟩
            · intro x hx
              rcases List.mem_append.1 hx with hx | hx
              · have := hA.out x hx; exact ⟨this.1, by omega⟩
              · simp at hx; subst hx; exact ⟨⟨Or.inr rfl, by simp only; omega, by simp only; omega, by simp only; omega, by simp only; omega⟩, by simp only; omega⟩
            · refine List.pairwise_append.2 ⟨hP, List.pairwise_singleton _ _, fun x hx y hy => ?_⟩
              simp at hy; subst hy
              have := (hA.out x hx).2
              simp only; omega
          case measure => simp [intOf]; omega
        · have e24 : (q / 60 % 25 == 24) = false := beq_eq_false_iff_ne.2 h24
          go_wp2_with fail
          refine (A0.out _).mono ?_
          rintro e w1 ⟨rfl, rfl⟩
          have hbs := hbr.size
          have hown1 := hown.alloc (.cells #[I 0, I (tt + q / 5 % 4), I (q / 20 % 3)] 42)
          have hsz : (wr.alloc (.cells #[I 0, I (tt + q / 5 % 4), I (q / 20 % 3)] 42)).heap.size = wr.heap.size + 1 := by simp
          go_wp2_with (at_builtin; refine wpList_append_row rfl _ _ 39 rfl w.heap.size 42 iu (.agg #[I 0, I 0, I 0]) 3 24 Try.underlying39 hiu zu0 zu1 zu2 rfl (by decide) _ k (flat A) rfl hown1 #[I 0, I (tt + q / 5 % 4), I (q / 20 % 3)] _ rfl (by intro u hu; simp at hu; rcases hu with rfl | rfl | rfl <;> rfl) 1 (by rw [hsz]; rfl) (by omega) (by omega) (by rw [hsz]; omega) ?_)
          intro b' cap' w1 hown' hgrow
          have hb1 : Bl w w1 := (hbr.al _).grown hgrow (fun k hk => (hown1.lt k hk).1)
          clear hown hown1 hgrow hce hbr
          go_wp2_with fail
          go_roundw
          case rel =>
            refine ⟨k + 1, tt + q / 5 % 4, A ++ [(0, tt + q / 5 % 4, q / 20 % 3)], by omega, by omega, by go_num, rfl, by simp [hAl], by omega, by omega, ?_, ?_, by rw [flat_app]; exact hown', hb1⟩
            · intro x hx
              rcases List.mem_append.1 hx with hx | hx
              · have := hA.out x hx; exact ⟨this.1, by omega⟩
              · simp at hx; subst hx; exact ⟨⟨Or.inl rfl, by simp only; omega, by simp only; omega, by simp only; omega, by simp only; omega⟩, by simp only; omega⟩
            · refine List.pairwise_append.2 ⟨hP, List.pairwise_singleton _ _, fun x hx y hy => ?_⟩
              simp at hy; subst hy
              have := (hA.out x hx).2
              simp only; omega
          case measure => simp [intOf]; omega
      · have e5 : (q % 5 == 0) = false := beq_eq_false_iff_ne.2 h5
        by_cases h24 : q / 60 % 25 = 24
        · have e24 : (q / 60 % 25 == 24) = true := by simp [h24]
          go_wp2_with fail
          refine (A0.out _).mono ?_
          rintro e w1 ⟨rfl, rfl⟩
          have hbs := hbr.size
          have hown1 := hown.alloc (.cells #[I 2, I (tt), I (q / 20 % 3)] 42)
          have hsz : (wr.alloc (.cells #[I 2, I (tt), I (q / 20 % 3)] 42)).heap.size = wr.heap.size + 1 := by simp
          go_wp2_with (at_builtin; refine wpList_append_row rfl _ _ 39 rfl w.heap.size 42 iu (.agg #[I 0, I 0, I 0]) 3 24 Try.underlying39 hiu zu0 zu1 zu2 rfl (by decide) _ k (flat A) rfl hown1 #[I 2, I (tt), I (q / 20 % 3)] _ rfl (by intro u hu; simp at hu; rcases hu with rfl | rfl | rfl <;> rfl) 1 (by rw [hsz]; rfl) (by omega) (by omega) (by rw [hsz]; omega) ?_)
          intro b' cap' w1 hown' hgrow
          have hb1 : Bl w w1 := (hbr.al _).grown hgrow (fun k hk => (hown1.lt k hk).1)
          clear hown hown1 hgrow hce hbr
          go_wp2_with fail
          go_roundw
          case rel =>
            refine ⟨k + 1, tt, A ++ [(2, tt, q / 20 % 3)], by omega, by omega, by go_num, rfl, by simp [hAl], by omega, by omega, ?_, ?_, by rw [flat_app]; exact hown', hb1⟩
            · intro x hx
              rcases List.mem_append.1 hx with hx | hx
              · have := hA.out x hx; exact ⟨this.1, by omega⟩
              · simp at hx; subst hx; exact ⟨⟨Or.inr rfl, by simp only; omega, by simp only; omega, by simp only; omega, by simp only; omega⟩, by simp only; omega⟩
            · refine List.pairwise_append.2 ⟨hP, List.pairwise_singleton _ _, fun x hx y hy => ?_⟩
              simp at hy; subst hy
              have := (hA.out x hx).2
              simp only; omega
          case measure => simp [intOf]; omega
        · have e24 : (q / 60 % 25 == 24) = false := beq_eq_false_iff_ne.2 h24
          go_wp2_with fail
          refine (A0.out _).mono ?_
          rintro e w1 ⟨rfl, rfl⟩
          have hbs := hbr.size
          have hown1 := hown.alloc (.cells #[I 0, I (tt), I (q / 20 % 3)] 42)
          have hsz : (wr.alloc (.cells #[I 0, I (tt), I (q / 20 % 3)] 42)).heap.size = wr.heap.size + 1 := by simp
          go_wp2_with (at_builtin; refine wpList_append_row rfl _ _ 39 rfl w.heap.size 42 iu (.agg #[I 0, I 0, I 0]) 3 24 Try.underlying39 hiu zu0 zu1 zu2 rfl (by decide) _ k (flat A) rfl hown1 #[I 0, I (tt), I (q / 20 % 3)] _ rfl (by intro u hu; simp at hu; rcases hu with rfl | rfl | rfl <;> rfl) 1 (by rw [hsz]; rfl) (by omega) (by omega) (by rw [hsz]; omega) ?_)
          intro b' cap' w1 hown' hgrow
          have hb1 : Bl w w1 := (hbr.al _).grown hgrow (fun k hk => (hown1.lt k hk).1)
          clear hown hown1 hgrow hce hbr
          go_wp2_with fail
          go_roundw
          case rel =>
            refine ⟨k + 1, tt, A ++ [(0, tt, q / 20 % 3)], by omega, by omega, by go_num, rfl, by simp [hAl], by omega, by omega, ?_, ?_, by rw [flat_app]; exact hown', hb1⟩
            · intro x hx
              rcases List.mem_append.1 hx with hx | hx
              · have := hA.out x hx; exact ⟨this.1, by omega⟩
              · simp at hx; subst hx; exact ⟨⟨Or.inl rfl, by simp only; omega, by simp only; omega, by simp only; omega, by simp only; omega⟩, by simp only; omega⟩
            · refine List.pairwise_append.2 ⟨hP, List.pairwise_singleton _ _, fun x hx y hy => ?_⟩
              simp at hy; subst hy
              have := (hA.out x hx).2
              simp only; omega
          case measure => simp [intOf]; omega
    · by_cases h1 : k < K
      · obtain rfl : k = 60 := by omega
        go_wp2_with fail
        go_ret
        obtain ⟨a', g, cap', cur, rfl, hg, hh⟩ := own_blk hown (by omega)
        refine ⟨a', cap', g, A, by rw [hAl]; rfl, ⟨by omega, fun x hx => (hA x hx).1, hP⟩, hg, fun hl => ?_, hbr⟩
        obtain ⟨h1, h2, h3, h4⟩ := hh (by omega)
        refine ⟨h1, cur, h2, fun i hi => ?_⟩
        obtain ⟨q1, q2, q3⟩ := flat_get A i hi
        rw [h4 _ (by omega), h4 _ (by omega), h4 _ (by omega)]
        exact ⟨q1, q2, q3⟩
      · obtain rfl : k = K := by omega
        go_wp2_with fail
        go_ret
        obtain ⟨a', g, cap', cur, rfl, hg, hh⟩ := own_blk hown (by omega)
        refine ⟨a', cap', g, A, by rw [hAl]; rfl, ⟨by omega, fun x hx => (hA x hx).1, hP⟩, hg, fun hl => ?_, hbr⟩
        obtain ⟨h1, h2, h3, h4⟩ := hh (by omega)
        refine ⟨h1, cur, h2, fun i hi => ?_⟩
        obtain ⟨q1, q2, q3⟩ := flat_get A i hi
        rw [h4 _ (by omega), h4 _ (by omega), h4 _ (by omega)]
        exact ⟨q1, q2, q3⟩
end Go.Proofs.Ytifmoekgnbgnmaa.lease
