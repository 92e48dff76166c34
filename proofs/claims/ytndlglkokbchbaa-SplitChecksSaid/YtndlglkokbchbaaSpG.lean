/-
  Package split: parts that are made of numbers.
-/
import Derived.Test.YtndlglkokbchbaaSpT
import Derived.Test.YtndlglkokbchbaaOwn
import Derived.Test.YtndlglkokbchbaaAround
namespace Go.Proofs.Ytndlglkokbchbaa.split
open Go.ChangeShapes Go.WideShapes Go.ChangeAt Go.RowKit
set_option linter.unusedVariables false
set_option linter.unusedSimpArgs false

theorem infoP : (Try.prog.info? 25).map (fun i => (i.zero, i.size, i.bytes)) = some (some (.agg #[I 0, I 0]), 2, 16) := by kernel_rfl
/-- The first k parts of a number q. -/
def Mk (q : Int) (r : Int) (R : List Pt) : Prop := ∀ i : Nat, i < R.length → (R.getD i p0).s = 1 + (q + i) % 5 ∧ (0 ≤ (R.getD i p0).w ∧ (R.getD i p0).w ≤ 9) ∧ ((i : Int) = r → 1 ≤ (R.getD i p0).w)
theorem Mk.snoc {q r : Int} {R : List Pt} {k : Nat} (h : Mk q r R) (hl : R.length = k) (w : Int) (w0 : 0 ≤ w) (w1 : w ≤ 9) (hr : (k : Int) = r → 1 ≤ w) : Mk q r (R ++ [⟨1 + (q + k) % 5, w⟩]) := by
  intro i hi
  rw [List.length_append, List.length_singleton] at hi
  by_cases hk : i < R.length
  · rw [List.getD, List.getElem?_append_left hk]
    exact h i hk
  · obtain rfl : i = R.length := by omega
    rw [List.getD, List.getElem?_append_right (Nat.le_refl _), Nat.sub_self]
    subst hl
    exact ⟨rfl, ⟨w0, w1⟩, hr⟩
/-- Parts that may be. -/
structure MadeOk (R : List Pt) : Prop where
  len : 1 ≤ R.length ∧ R.length ≤ 4
  srv : ∀ i, i < R.length → 1 ≤ (R.getD i p0).s ∧ (R.getD i p0).s ≤ 5
  wgt : ∀ i, i < R.length → 0 ≤ (R.getD i p0).w ∧ (R.getD i p0).w ≤ 9
  two : ∀ i j, i < j → j < R.length → (R.getD i p0).s ≠ (R.getD j p0).s
  pos : ∃ i, i < R.length ∧ 1 ≤ (R.getD i p0).w
theorem Mk.made {q : Int} {r : Nat} {R : List Pt} (h : Mk q r R) (hl : R.length = r + 1) (hr : r ≤ 3) (hq : 0 ≤ q) : MadeOk R where
  len := by omega
  srv := fun i hi => by have := (h i hi).1; omega
  wgt := fun i hi => (h i hi).2.1
  two := fun i j hij hj => by
    have h1 := (h i (by omega)).1
    have h2 := (h j hj).1
    omega
  pos := ⟨r, by omega, (h r (by omega)).2.2 rfl⟩

def MadeD (w : World) : Ending → World → Prop := fun e w' => ∃ v R, e = .returned v ∧ MadeOk R ∧ OwnB pB 2 25 w' w.heap.size v R ∧ Bl w w'




set_option maxHeartbeats 8000000 in
set_option maxRecDepth 20000 in
theorem made_any (z0 : List Int) (v : Value) (w : World) (hv : IntsAt w v z0) (hz : i64ok z0) (hm : z0.length ≤ maxLen) : Calls Try.prog 10 #[v] w (MadeD w) := by
  obtain ⟨iu, hiu, zu0, zu1, zu2⟩ := info_parts infoP
  obtain ⟨a, cap, rfl, RD⟩ := rd_any hv
  unfold maxLen at hm
  obtain ⟨N, hN⟩ : ∃ z_, (z0.length) = z_ := ⟨_, rfl⟩
  rw [hN] at RD hm ⊢
  have hzz : ∀ k, k < N → -9223372036854775808 ≤ z0.getD k 0 ∧ z0.getD k 0 ≤ 9223372036854775807 := fun k hk => hz _ (getD_mem z0 k 0 (by omega))
  have AR := Lib.hid (fun y w h1 h2 => around_any y 10 w h1 h2 (by omega) (by omega))
  have AN := Lib.hid (fun y w h1 h2 => around_any y 1000 w h1 h2 (by omega) (by omega))
  replace RD := Lib.hid RD
  replace hzz := Lib.hid hzz
  clear hv hN hz
  unfold MadeD
  by_cases h0 : 0 < N
  · obtain ⟨b0, off0, hbe0, hce0⟩ := RD.out w (Bl.rfl' w) 0 h0
    cases hbe0
    unfold icell at hce0
    simp only [Nat.add_zero] at hce0
    obtain ⟨y, hy⟩ : ∃ z_, (z0.getD 0 0) = z_ := ⟨_, rfl⟩
    have hyb := hzz.out 0 h0
    rw [hy] at hce0 hyb
    have A0 := AN.out y w hyb.1 hyb.2
    have n0 := around_lo y 1000 (by omega); have n1 := around_hi y 1000 (by omega)
    obtain ⟨n, hn⟩ : ∃ z_, (around y 1000) = z_ := ⟨_, rfl⟩
    rw [hn] at A0 n0 n1
    have htm : n.tmod 4 = n % 4 := Int.tmod_eq_emod_of_nonneg n0
    have htd : n.tdiv 4 = n / 4 := Int.tdiv_eq_ediv_of_nonneg n0
    obtain ⟨r, hr⟩ : ∃ r : Nat, n % 4 = (r : Int) := ⟨(n % 4).toNat, by omega⟩
    obtain ⟨q, hq⟩ : ∃ q, n / 4 = q := ⟨_, rfl⟩
    have hr3 : r ≤ 3 := by omega
    have q0' : 0 ≤ q := by omega
    have q1' : q ≤ 1000 := by omega
    have wr4 : IntKind.i64.wrap (n.tmod 4) = (r : Int) := by rw [htm, hr, IntKind.wrap_i64]; omega
    have wq4 : IntKind.i64.wrap (n.tdiv 4) = q := by rw [htd, hq, IntKind.wrap_i64]; omega
    clear htm htd hq hy hn hyb
    replace A0 := Lib.hid A0
    go_enter Try.func10, Try.ntmps10
    go_wp2_with fail
    with_reducible refine (A0.out).mono ?_
    rintro e w' ⟨rfl, rfl⟩
    clear hce0
    go_wp2_with fail
    go_loopw [4, 5, 6] (fun o i x wr => ∃ (k : Nat) (R : List Pt), k ≤ r + 1 ∧ i = I k ∧ R.length = k ∧ Mk q r R ∧ OwnB pB 2 25 wr w.heap.size o R ∧ Bl w wr) (fun _ i _ _ => r + 1 - (intOf i).toNat)
    case atStart => exact ⟨0, [], by omega, rfl, rfl, fun i hi => by simp at hi, OwnB.nil _ _ _, Bl.rfl' _⟩
    case round =>
      obtain ⟨k, R, hk, rfl, hRl, hMk, hown, hb⟩ := hrel
      unfold OwnB at hown
      rw [hRl] at hown
      by_cases hlt : k ≤ r
      · have hd1 : decide ((k : Int) ≤ (r : Int)) = true := decide_eq_true (by omega)
        have wt : IntKind.i64.wrap ((k : Int) + 1) = ((k + 1 : Nat) : Int) := by rw [IntKind.wrap_i64]; omega
        have wq : IntKind.i64.wrap (q + k) = q + k := by rw [IntKind.wrap_i64]; omega
        have ht5 : (q + (k : Int)).tmod 5 = (q + k) % 5 := Int.tmod_eq_emod_of_nonneg (by omega)
        have wm : IntKind.i64.wrap ((q + (k : Int)).tmod 5) = (q + k) % 5 := by rw [ht5, IntKind.wrap_i64]; omega
        have ws : IntKind.i64.wrap (1 + (q + (k : Int)) % 5) = 1 + (q + k) % 5 := by rw [IntKind.wrap_i64]; omega
        have hmk0 : 0 ≤ (q + (k : Int)) % 5 := by omega
        clear ht5
        replace hown := Lib.hid hown
        replace hb := Lib.hid hb
        replace hMk := Lib.hid hMk
        by_cases hin : k + 1 < N
        · obtain ⟨b, off, hbe, hce⟩ := RD.out wr hb.out (k + 1) hin
          cases hbe
          unfold icell at hce
          obtain ⟨y, hy⟩ : ∃ z_, (z0.getD (k + 1) 0) = z_ := ⟨_, rfl⟩
          have hyb := hzz.out (k + 1) hin
          rw [hy] at hce hyb
          have A10 := AR.out y wr hyb.1 hyb.2
          have q0 := around_lo y 10 (by omega); have q1 := around_hi y 10 (by omega)
          obtain ⟨x, hx⟩ : ∃ z_, (around y 10) = z_ := ⟨_, rfl⟩
          rw [hx] at A10 q0 q1
          have hd2 : decide ((k : Int) + 1 < (N : Int)) = true := decide_eq_true (by omega)
          have ht9 : x.tmod 9 = x % 9 := Int.tmod_eq_emod_of_nonneg q0
          have w9 : IntKind.i64.wrap (x.tmod 9) = x % 9 := by rw [ht9, IntKind.wrap_i64]; omega
          have w91 : IntKind.i64.wrap (1 + x % 9) = 1 + x % 9 := by rw [IntKind.wrap_i64]; omega
          clear ht9 hy hx hyb
          replace A10 := Lib.hid A10
          go_wp2_with fail
          with_reducible refine (A10.out).mono ?_
          rintro e w' ⟨rfl, rfl⟩
          have hd3 : ((k : Int) == (r : Int)) = decide (k = r) := by by_cases h : k = r <;> simp [h] <;> omega
          by_cases hkr : k = r
          · clear hd3
            have hd4 : ((k : Int) == (r : Int)) = true := by simp [hkr]
            replace hkr := Lib.hid hkr
            have hbs := hb.out.size
            go_wp2_with (at_builtin; refine wpList_append_rec rfl _ _ 22 rfl w.heap.size 25 iu (.agg #[I 0, I 0]) 2 16 Try.underlying22 hiu zu0 zu1 zu2 rfl (by decide) _ k (flatB pB R) rfl hown.out #[I (1 + (q + k) % 5), I (1 + x % 9)] _ rfl (by intro u hu; simp at hu; rcases hu with rfl | rfl <;> rfl) 1 (by first | rfl | simp [Act.eval, Act.put]) (by omega) (by omega) (by omega) ?_)
            intro b' cap' w7 hown' hgrow hbn
            have hb7 := hb.out.grown hgrow (fun k hk => (hown.out.lt k hk).1)
            replace hown' := Lib.hid hown'
            replace hb7 := Lib.hid hb7
            go_wp2_with fail
            go_roundw
            case rel => exact ⟨k + 1, R ++ [⟨1 + (q + k) % 5, 1 + x % 9⟩], by omega, by first | rfl | go_num, by rw [List.length_append, hRl]; rfl, hMk.out.snoc hRl _ (by omega) (by omega) (by intro h; first | omega | exact absurd (by omega) hkr.out), by unfold OwnB; rw [List.length_append, hRl, flatB_snoc]; exact hown'.out, hb7.out⟩
            case measure => simp [intOf] <;> omega
          · rw [decide_eq_false hkr] at hd3
            replace hkr := Lib.hid hkr
            have hbs := hb.out.size
            go_wp2_with (at_builtin; refine wpList_append_rec rfl _ _ 22 rfl w.heap.size 25 iu (.agg #[I 0, I 0]) 2 16 Try.underlying22 hiu zu0 zu1 zu2 rfl (by decide) _ k (flatB pB R) rfl hown.out #[I (1 + (q + k) % 5), I (x)] _ rfl (by intro u hu; simp at hu; rcases hu with rfl | rfl <;> rfl) 1 (by first | rfl | simp [Act.eval, Act.put]) (by omega) (by omega) (by omega) ?_)
            intro b' cap' w7 hown' hgrow hbn
            have hb7 := hb.out.grown hgrow (fun k hk => (hown.out.lt k hk).1)
            replace hown' := Lib.hid hown'
            replace hb7 := Lib.hid hb7
            go_wp2_with fail
            go_roundw
            case rel => exact ⟨k + 1, R ++ [⟨1 + (q + k) % 5, x⟩], by omega, by first | rfl | go_num, by rw [List.length_append, hRl]; rfl, hMk.out.snoc hRl _ (by omega) (by omega) (by intro h; first | omega | exact absurd (by omega) hkr.out), by unfold OwnB; rw [List.length_append, hRl, flatB_snoc]; exact hown'.out, hb7.out⟩
            case measure => simp [intOf] <;> omega
        · have hd2 : decide ((k : Int) + 1 < (N : Int)) = false := decide_eq_false (by omega)
          have hd3 : ((k : Int) == (r : Int)) = decide (k = r) := by by_cases h : k = r <;> simp [h] <;> omega
          by_cases hkr : k = r
          · clear hd3
            have hd4 : ((k : Int) == (r : Int)) = true := by simp [hkr]
            replace hkr := Lib.hid hkr
            have hbs := hb.out.size
            go_wp2_with (at_builtin; refine wpList_append_rec rfl _ _ 22 rfl w.heap.size 25 iu (.agg #[I 0, I 0]) 2 16 Try.underlying22 hiu zu0 zu1 zu2 rfl (by decide) _ k (flatB pB R) rfl hown.out #[I (1 + (q + k) % 5), I (1)] _ rfl (by intro u hu; simp at hu; rcases hu with rfl | rfl <;> rfl) 1 (by first | rfl | simp [Act.eval, Act.put]) (by omega) (by omega) (by omega) ?_)
            intro b' cap' w7 hown' hgrow hbn
            have hb7 := hb.out.grown hgrow (fun k hk => (hown.out.lt k hk).1)
            replace hown' := Lib.hid hown'
            replace hb7 := Lib.hid hb7
            go_wp2_with fail
            go_roundw
            case rel => exact ⟨k + 1, R ++ [⟨1 + (q + k) % 5, 1⟩], by omega, by first | rfl | go_num, by rw [List.length_append, hRl]; rfl, hMk.out.snoc hRl _ (by omega) (by omega) (by intro h; first | omega | exact absurd (by omega) hkr.out), by unfold OwnB; rw [List.length_append, hRl, flatB_snoc]; exact hown'.out, hb7.out⟩
            case measure => simp [intOf] <;> omega
          · rw [decide_eq_false hkr] at hd3
            replace hkr := Lib.hid hkr
            have hbs := hb.out.size
            go_wp2_with (at_builtin; refine wpList_append_rec rfl _ _ 22 rfl w.heap.size 25 iu (.agg #[I 0, I 0]) 2 16 Try.underlying22 hiu zu0 zu1 zu2 rfl (by decide) _ k (flatB pB R) rfl hown.out #[I (1 + (q + k) % 5), I (0)] _ rfl (by intro u hu; simp at hu; rcases hu with rfl | rfl <;> rfl) 1 (by first | rfl | simp [Act.eval, Act.put]) (by omega) (by omega) (by omega) ?_)
            intro b' cap' w7 hown' hgrow hbn
            have hb7 := hb.out.grown hgrow (fun k hk => (hown.out.lt k hk).1)
            replace hown' := Lib.hid hown'
            replace hb7 := Lib.hid hb7
            go_wp2_with fail
            go_roundw
            case rel => exact ⟨k + 1, R ++ [⟨1 + (q + k) % 5, 0⟩], by omega, by first | rfl | go_num, by rw [List.length_append, hRl]; rfl, hMk.out.snoc hRl _ (by omega) (by omega) (by intro h; first | omega | exact absurd (by omega) hkr.out), by unfold OwnB; rw [List.length_append, hRl, flatB_snoc]; exact hown'.out, hb7.out⟩
            case measure => simp [intOf] <;> omega
      · have hke : k = r + 1 := by omega
        have hd1 : decide ((k : Int) ≤ (r : Int)) = false := decide_eq_false (by omega)
        have hmo := hMk.made (hRl.trans hke) hr3 q0'
        clear hke
        replace hown := Lib.hid hown
        replace hb := Lib.hid hb
        go_wp2_with fail
        go_ret
        exact ⟨_, R, rfl, hmo, by unfold OwnB; rw [hRl]; exact hown.out, hb.out⟩
  · obtain rfl : N = 0 := by omega
    go_enter Try.func10, Try.ntmps10
    go_wp2_with fail
    go_loopw [4, 5, 6] (fun o i x wr => ∃ (k : Nat) (R : List Pt), k ≤ 1 ∧ i = I k ∧ R.length = k ∧ Mk 0 ((0 : Nat) : Int) R ∧ OwnB pB 2 25 wr w.heap.size o R ∧ Bl w wr) (fun _ i _ _ => 1 - (intOf i).toNat)
    case atStart => exact ⟨0, [], by omega, rfl, rfl, fun i hi => by simp at hi, OwnB.nil _ _ _, Bl.rfl' _⟩
    case round =>
      obtain ⟨k, R, hk, rfl, hRl, hMk, hown, hb⟩ := hrel
      unfold OwnB at hown
      rw [hRl] at hown
      by_cases hlt : k = 0
      · subst hlt
        have hbs := hb.size
        replace hown := Lib.hid hown
        replace hb := Lib.hid hb
        replace hMk := Lib.hid hMk
        go_wp2_with (at_builtin; refine wpList_append_rec rfl _ _ 22 rfl w.heap.size 25 iu (.agg #[I 0, I 0]) 2 16 Try.underlying22 hiu zu0 zu1 zu2 rfl (by decide) _ 0 (flatB pB R) rfl hown.out #[I 1, I 1] _ rfl (by intro u hu; simp at hu; subst hu; rfl) 1 (by first | rfl | simp [Act.eval, Act.put]) (by omega) (by omega) (by omega) ?_)
        intro b' cap' w7 hown' hgrow hbn
        have hb7 := hb.out.grown hgrow (fun k hk => (hown.out.lt k hk).1)
        replace hown' := Lib.hid hown'
        replace hb7 := Lib.hid hb7
        go_wp2_with fail
        go_roundw
        case rel => exact ⟨1, R ++ [⟨1 + (0 + ((0 : Nat) : Int)) % 5, 1⟩], by omega, by first | rfl | go_num, by rw [List.length_append, hRl]; rfl, hMk.out.snoc hRl 1 (by omega) (by omega) (by intro _; omega), by unfold OwnB; rw [List.length_append, hRl, flatB_snoc]; exact hown'.out, hb7.out⟩
        case measure => simp [intOf] <;> omega
      · obtain rfl : k = 1 := by omega
        have hmo := hMk.made (r := 0) hRl (by omega) (by omega)
        replace hown := Lib.hid hown
        replace hb := Lib.hid hb
        go_wp2_with fail
        go_ret
        exact ⟨_, R, rfl, hmo, by unfold OwnB; rw [hRl]; exact hown.out, hb.out⟩
end Go.Proofs.Ytndlglkokbchbaa.split
