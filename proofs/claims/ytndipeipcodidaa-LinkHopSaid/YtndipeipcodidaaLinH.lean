/-
  The statements' rows of faults and of messages, made of numbers.
-/
import Derived.Test.YtndipeipcodidaaLinG
namespace Go.Proofs.Ytndipeipcodidaa.link
open Go.ChangeShapes Go.WideShapes Go.ChangeAt Go.RowKit
set_option linter.unusedVariables false
set_option linter.unusedSimpArgs false

theorem infoFA : (Try.prog.info? 40).map (fun i => (i.zero, i.size, i.bytes)) = some (some (.agg #[I 0, I 0, I 0, I 0, I 0, I 0]), 6, 48) := by kernel_rfl

def okGs (A : List Flt) : Prop := A.length ≤ 8 ∧ ∀ x ∈ A, okG x
def FaultsD (w : World) : Ending → World → Prop := fun e w' => ∃ a cap g A, e = .returned (.slice a A.length cap) ∧ A.length ≤ cap ∧ okGs A ∧ w.heap.size ≤ g ∧ FRow w' g a A ∧ Bl w w'

set_option maxHeartbeats 4000000 in
theorem faults_any (z : List Int) (v : Value) (w : World) (hv : IntsAt w v z) (hz : i64ok z) (hm : z.length ≤ maxLen) :
    Calls Try.prog 8 #[v] w (FaultsD w) := by
  obtain ⟨iu, hiu, zu0, zu1, zu2⟩ := info_parts infoFA
  obtain ⟨a, cap, rfl, R⟩ := rd_any hv
  unfold maxLen at hm
  obtain ⟨K, hK⟩ : ∃ K, z.length = K := ⟨_, rfl⟩
  rw [hK] at R hm ⊢
  have hzz : ∀ k, k < K → -9223372036854775808 ≤ z.getD k 0 ∧ z.getD k 0 ≤ 9223372036854775807 := fun k hk => hz _ (getD_mem z k 0 (by omega))
  replace R := Lib.hid R; replace hzz := Lib.hid hzz
  have FA := Lib.hid fault_any
  clear hv hK hz
  go_enter Try.func8, Try.ntmps8
  go_wp2_with fail
  go_loopw [3, 4] (fun o i wr => ∃ (k : Nat) (A : List Flt), k ≤ K ∧ k ≤ 8 ∧ i = I k ∧ A.length = k ∧ (∀ x ∈ A, okG x) ∧ wr.ownsRow w.heap.size 40 6 o k (flat A) ∧ Bl w wr) (fun _ i _ => K - (intOf i).toNat)
  case atStart => exact ⟨0, [], by omega, by omega, rfl, rfl, fun x hx => by simp at hx, World.ownsRow_nil _ _ _ _, Bl.rfl' _⟩
  case round =>
    obtain ⟨k, A, hkK, hk1, rfl, hAl, hA, hown, hbr⟩ := hrel
    by_cases hlt : k < K ∧ k < 8
    · obtain ⟨hlt, hlt2⟩ := hlt
      obtain ⟨b, off, rfl, hce⟩ := R.out wr hbr k hlt
      unfold icell at hce
      obtain ⟨y, hy⟩ : ∃ y, z.getD k 0 = y := ⟨_, rfl⟩
      have hyb := hzz.out k hlt
      rw [hy] at hce hyb
      clear hy
      replace hA := Lib.hid hA; replace hown := Lib.hid hown; replace hbr := Lib.hid hbr
      go_wp2_with fail
      refine (FA.out y _ hyb.1 hyb.2).mono ?_
      rintro e w1 ⟨⟨⟨xk, xf, xt, xa, xb, xn⟩, rfl, hx⟩, hb1⟩
      replace hx := Lib.hid hx
      have hown1 := Lib.hid (own_below hown.out hb1)
      have hbr1 := hbr.out.tr hb1
      have hbs := hbr1.size
      have hown2 := hown1.out.alloc (.cells #[I xk, I xf, I xt, I xa, I xb, I xn] 40)
      have hlt1 := Lib.hid hown2.lt
      clear hown2 hown hbr hb1 hce hyb
      replace hbr1 := Lib.hid hbr1
      go_wp2_with (at_builtin; refine wpList_append_row rfl _ _ 23 rfl w.heap.size 40 iu (.agg #[I 0, I 0, I 0, I 0, I 0, I 0]) 6 48 Try.underlying23 hiu zu0 zu1 zu2 rfl (by decide) _ k (flat A) rfl hown1.out #[I xk, I xf, I xt, I xa, I xb, I xn] _ rfl (by intro u hu; simp at hu; rcases hu with rfl | rfl | rfl | rfl | rfl | rfl <;> rfl) 1 rfl (by omega) (by omega) (by omega) ?_)
      intro b' cap' w2 hown' hgrow
      have hb2 := hbr1.out.grown hgrow (fun k hk => (hown1.out.lt k hk).1)
      clear hown1 hgrow hbr1 hlt1
      replace hown' := Lib.hid hown'; replace hb2 := Lib.hid hb2
      go_wp2_with fail
      go_roundw
      case rel =>
        refine ⟨k + 1, A ++ [⟨xk, xf, xt, xa, xb, xn⟩], by omega, by omega, by go_num, by simp [hAl], ?_, by rw [flat_app]; exact hown'.out, hb2.out⟩
        intro x hx'
        rcases List.mem_append.1 hx' with hx' | hx'
        · exact hA.out x hx'
        · simp at hx'; subst hx'; exact hx.out
      case measure => simp [intOf]; omega
    · obtain ⟨a', g, cap', cur, rfl, hbg, hrow⟩ := own_blk hown (by decide)
      have hend : FaultsD w (.returned (.slice a' k cap')) wr := by
        subst hAl
        refine ⟨a', cap', g, A, rfl, ?_, ⟨hk1, hA⟩, hbg, fun hl => ?_, hbr⟩
        · rcases Nat.eq_zero_or_pos A.length with h0 | h0
          · omega
          · exact (hrow h0).2.2.1.1
        · obtain ⟨q1, q2, -, q4⟩ := hrow hl
          exact ⟨q1, cur, _, q2, q4⟩
      replace hend := Lib.hid hend
      clear hown hrow hbr hA
      by_cases hk8 : k < K
      · obtain rfl : k = 8 := by omega
        go_wp2_with fail
        go_ret
        exact hend.out
      · obtain rfl : k = K := by omega
        go_wp2_with fail
        go_ret
        exact hend.out
/-- A message: when, from where, to where. -/
structure Msg where
  t : Int
  u : Int
  v : Int
abbrev ms0 : Msg := ⟨0, 0, 0⟩
def mflat : List Msg → List Value
  | [] => []
  | x :: A => I x.t :: I x.u :: I x.v :: mflat A
theorem mflat_app : ∀ A B, mflat (A ++ B) = mflat A ++ mflat B
  | [], _ => rfl
  | x :: A, B => by simp only [List.cons_append, mflat, mflat_app A B]
theorem mflat_get : ∀ (A : List Msg) (i : Nat), i < A.length → (mflat A)[i * 3]? = some (I (A.getD i ms0).t) ∧ (mflat A)[i * 3 + 1]? = some (I (A.getD i ms0).u) ∧ (mflat A)[i * 3 + 2]? = some (I (A.getD i ms0).v)
  | [], i, h => by simp at h
  | x :: A, 0, _ => by simp [mflat]
  | x :: A, i + 1, h => by
    have := mflat_get A i (by simpa using h)
    rw [show (i + 1) * 3 = i * 3 + 3 by omega, show i * 3 + 3 + 1 = i * 3 + 1 + 3 by omega, show i * 3 + 3 + 2 = i * 3 + 2 + 3 by omega]
    simpa [mflat] using this
/-- A row of messages, in its block. -/
def MRow (w : World) (g : Nat) (a : Option Addr) (A : List Msg) : Prop := 0 < A.length → a = some ⟨g, 0, none⟩ ∧ ∃ cur T, w.heap[g]? = some (.cells cur T (0, 0)) ∧ ∀ j, j < A.length * 3 → cur[j]? = (mflat A)[j]?
theorem MRow.kept {w w' : World} {g a A} (h : MRow w g a A) (hb : ∀ o, w.heap[g]? = some o → w'.heap[g]? = some o) : MRow w' g a A := fun hl => by
  obtain ⟨h1, cur, T, h2, h3⟩ := h hl
  exact ⟨h1, cur, T, hb _ h2, h3⟩
theorem MRow.bl {w w' : World} {g a A} (h : MRow w g a A) (hb : Bl w w') : MRow w' g a A := h.kept (fun o h => var_bl h hb)
theorem MRow.gby {w w' : World} {g a A p} (h : MRow w g a A) (hb : w.grownBy w' (some p)) (hne : g ≠ p) : MRow w' g a A := h.kept (fun o h => var_gby h hb hne)
theorem MRow.c {w : World} {g a A} (h : MRow w g a A) (i : Nat) (hi : i < A.length) : a = some ⟨g, 0, none⟩ ∧ w.cell? ⟨g, i * 3, none⟩ = some (I (A.getD i ms0).t) ∧ w.cell? ⟨g, i * 3 + 1, none⟩ = some (I (A.getD i ms0).u) ∧ w.cell? ⟨g, i * 3 + 2, none⟩ = some (I (A.getD i ms0).v) := by
  obtain ⟨h1, cur, T, h2, h3⟩ := h (by omega)
  obtain ⟨q1, q2, q3⟩ := mflat_get A i hi
  refine ⟨h1, ?_, ?_, ?_⟩
  · rw [cell_at h2, h3 _ (by omega), q1]
  · rw [cell_at h2, h3 _ (by omega), q2]
  · rw [cell_at h2, h3 _ (by omega), q3]
def okM (x : Msg) : Prop := 0 ≤ x.t ∧ x.t ≤ 600
def okMs (A : List Msg) : Prop := A.length ≤ 40 ∧ ∀ x ∈ A, okM x
def MsgsD (w : World) : Ending → World → Prop := fun e w' => ∃ a cap g A, e = .returned (.slice a A.length cap) ∧ okMs A ∧ w.heap.size ≤ g ∧ MRow w' g a A ∧ Bl w w'
theorem infoMs : (Try.prog.info? 33).map (fun i => (i.zero, i.size, i.bytes)) = some (some (.agg #[I 0, I 0, I 0]), 3, 24) := by kernel_rfl

set_option maxHeartbeats 4000000 in
theorem msgs_any (z : List Int) (v : Value) (w : World) (hv : IntsAt w v z) (hz : i64ok z) (hm : z.length ≤ maxLen) :
    Calls Try.prog 11 #[v] w (MsgsD w) := by
  obtain ⟨iu, hiu, zu0, zu1, zu2⟩ := info_parts infoMs
  obtain ⟨a, cap, rfl, R⟩ := rd_any hv
  unfold maxLen at hm
  obtain ⟨K, hK⟩ : ∃ K, z.length = K := ⟨_, rfl⟩
  rw [hK] at R hm ⊢
  have hzz : ∀ k, k < K → -9223372036854775808 ≤ z.getD k 0 ∧ z.getD k 0 ≤ 9223372036854775807 := fun k hk => hz _ (getD_mem z k 0 (by omega))
  replace R := Lib.hid R; replace hzz := Lib.hid hzz
  have SA := Lib.hid some_any
  clear hv hK hz
  go_enter Try.func11, Try.ntmps11
  go_wp2_with fail
  go_loopw [3, 4, 5] (fun o t i wr => ∃ (k : Nat) (tt : Int) (A : List Msg), k ≤ K ∧ k ≤ 40 ∧ i = I k ∧ t = I tt ∧ 0 ≤ tt ∧ tt ≤ 14 * k ∧ A.length = k ∧ (∀ x ∈ A, okM x) ∧ wr.ownsRow w.heap.size 33 3 o k (mflat A) ∧ Bl w wr) (fun _ _ i _ => K - (intOf i).toNat)
  case atStart => exact ⟨0, 0, [], by omega, by omega, rfl, rfl, by omega, by omega, rfl, fun x hx => by simp at hx, World.ownsRow_nil _ _ _ _, Bl.rfl' _⟩
  case round =>
    obtain ⟨k, tt, A, hkK, hk1, rfl, rfl, t0, t1, hAl, hA, hown, hbr⟩ := hrel
    by_cases hlt : k < K ∧ k < 40
    · obtain ⟨hlt, hlt2⟩ := hlt
      obtain ⟨b, off, rfl, hce⟩ := R.out wr hbr k hlt
      unfold icell at hce
      obtain ⟨y, hy⟩ : ∃ y, z.getD k 0 = y := ⟨_, rfl⟩
      have hyb := hzz.out k hlt
      rw [hy] at hce hyb
      clear hy
      have A0 := fun w => around_any y 1000000 w hyb.1 hyb.2 (by omega) (by omega)
      have a0 := around_lo y 1000000 (by omega); have a1 := around_hi y 1000000 (by omega)
      obtain ⟨q, hq⟩ : ∃ t, around y 1000000 = t := ⟨_, rfl⟩
      rw [hq] at A0 a0 a1
      replace A0 := Lib.hid A0
      clear hq hyb
      replace hA := Lib.hid hA; replace hown := Lib.hid hown; replace hbr := Lib.hid hbr
      obtain ⟨t', ht'⟩ : ∃ t, tt + q % 15 = t := ⟨_, rfl⟩
      have t2 : 0 ≤ t' := by omega
      have t3 : t' ≤ 14 * (k + 1) := by omega
      go_wp2_with fail
      refine (A0.out _).mono ?_
      rintro e w1 ⟨rfl, rfl⟩
      go_wp2_with fail
      refine (SA.out _ _ (by omega) (by omega)).mono ?_
      rintro e w1 ⟨⟨s1, rfl, p0, p1⟩, rfl⟩
      go_wp2_with fail
      refine (SA.out _ _ (by omega) (by omega)).mono ?_
      rintro e w1 ⟨⟨s2, rfl, p2, p3⟩, rfl⟩
      have hown1 := Lib.hid (hown.out.alloc (.cells #[I t', I s1, I s2] 33))
      have hbr1 := hbr.out.al (.cells #[I t', I s1, I s2] 33)
      have hbs := hbr1.size
      have hbs0 := hbr.out.size
      have hszm : (wr.alloc (.cells #[I t', I s1, I s2] 33)).heap.size = wr.heap.size + 1 := by simp
      replace hbr1 := Lib.hid hbr1
      clear hown hbr
      go_wp2_with (at_builtin; refine wpList_append_row rfl _ _ 28 rfl w.heap.size 33 iu (.agg #[I 0, I 0, I 0]) 3 24 Try.underlying28 hiu zu0 zu1 zu2 rfl (by decide) _ k (mflat A) rfl hown1.out #[I t', I s1, I s2] _ rfl (by intro u hu; simp at hu; rcases hu with rfl | rfl | rfl <;> rfl) 1 (by first | rfl | (rw [hszm]; rfl)) (by omega) (by omega) (by omega) ?_)
      intro b' cap' w2 hown' hgrow
      have hb2 := hbr1.out.grown hgrow (fun k hk => (hown1.out.lt k hk).1)
      clear hown1 hgrow hbr1
      replace hown' := Lib.hid hown'; replace hb2 := Lib.hid hb2
      go_wp2_with fail
      go_roundw
      case rel =>
        refine ⟨k + 1, t', A ++ [⟨t', s1, s2⟩], by omega, by omega, by go_num, rfl, t2, by omega, by simp [hAl], ?_, by rw [mflat_app]; exact hown'.out, hb2.out⟩
        intro x hx'
        rcases List.mem_append.1 hx' with hx' | hx'
        · exact hA.out x hx'
        · simp at hx'; subst hx'; exact ⟨by simp only; omega, by simp only; omega⟩
      case measure => simp [intOf]; omega
    · obtain ⟨a', g, cap', cur, rfl, hbg, hrow⟩ := own_blk hown (by decide)
      have hend : MsgsD w (.returned (.slice a' k cap')) wr := by
        subst hAl
        refine ⟨a', cap', g, A, rfl, ⟨hk1, hA⟩, hbg, fun hl => ?_, hbr⟩
        obtain ⟨q1, q2, -, q4⟩ := hrow hl
        exact ⟨q1, cur, _, q2, q4⟩
      replace hend := Lib.hid hend
      clear hown hrow hbr hA
      by_cases hk8 : k < K
      · obtain rfl : k = 40 := by omega
        go_wp2_with fail
        go_ret
        exact hend.out
      · obtain rfl : k = K := by omega
        go_wp2_with fail
        go_ret
        exact hend.out
end Go.Proofs.Ytndipeipcodidaa.link
