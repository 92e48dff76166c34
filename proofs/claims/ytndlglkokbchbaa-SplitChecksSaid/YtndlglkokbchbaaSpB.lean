/-
  Package split: behind, round by round.
-/
import Derived.Test.YtndlglkokbchbaaSpA
namespace Go.Proofs.Ytndlglkokbchbaa.split
open Go.ChangeShapes Go.WideShapes Go.ChangeAt Go.RowKit Go.Shelf
set_option linter.unusedVariables false
set_option linter.unusedSimpArgs false
attribute [local go_sem] Oper.semAt_some

abbrev encP (x : Int × Pt) : Array Value := #[I x.1, pv x.2]
theorem two {w : World} {y : Nat} {x : Pt} {t : TypeId} (h : w.heap[y]? = some (.cells #[I x.s, I x.w] t (0, 0))) : w.cell? ⟨y, 0, none⟩ = some (I x.s) ∧ w.cell? ⟨y, 1, none⟩ = some (I x.w) := by
  refine ⟨?_, ?_⟩ <;> (rw [cell_at h]; rfl)

set_option maxRecDepth 100000 in
set_option maxHeartbeats 4000000 in
theorem behind1_in (n : Nat) (hn : 1 ≤ n) (l Bn B g o cap : Nat) (a : Option Addr) (R : List Pt) (hR : okP R) (J Jx : List (Int × Pt) → World → Prop) (W : World)
    (hJ : AbidesFrom W.heap.size J) (hgB : g ≠ B) (hB : B < W.heap.size) (hc : W.cell? ⟨Bn, 0, none⟩ = some (.slice a R.length cap)) (hr : RowZ W g o a R)
    (hY : ∀ pre x W1, J pre W1 → pre.length < R.length → YieldAt Fence.wide (n - 1) Try.prog l (encP x) W1 fun e W' =>
      (e = .returned (.bool true) ∧ J (pre ++ [x]) W' ∧ KB B W1 W') ∨ (e = .returned (.bool false) ∧ Jx (pre ++ [x]) W')) (h0 : J [] W) :
    CallsIn Fence.wide n Try.prog 26 #[.func (.yield l) #[] #[], .pointer (some ⟨Bn, 0, none⟩)] W fun e W' => (∃ v, e = .returned v) ∧
      ((∃ xs, xs = evP R R.length ∧ J xs W') ∨ (∃ pre, pre <+: evP R R.length ∧ Jx pre W')) := by
  have hRn := hR.2
  refine callsIn_of_wp Try.func26 rfl trivial ?_ rfl
  simp only [Try.ntmps26, List.size_toArray, List.length_cons, List.length_nil, Nat.reduceAdd, Nat.reduceSub, Array.replicate_succ, Array.replicate_zero, List.push_toArray, List.append_toArray, List.nil_append, List.cons_append]
  gi_wp2
  gi_loopw [3, 8] (fun s i wr => ∃ k : Nat, k ≤ R.length ∧ i = I k ∧ s = I (ahd R k) ∧ RowZ wr g o a R ∧ W.heap.size ≤ wr.heap.size ∧ J (evP R k) wr) (fun _ i _ => R.length - (intOf i).toNat)
  case atStart =>
    exact ⟨0, by omega, rfl, rfl, hr, Nat.le_refl _, h0⟩
  case round =>
    obtain ⟨k, hk, rfl, rfl, hrr, hsz, hJk⟩ := hrel
    by_cases hlt : k < R.length
    · obtain ⟨ha, hcc⟩ := hrr.c k hlt
      have hx := hR.at k
      have ha0 := hR.ahd k
      have hJ2 : J (evP R k) (wr.alloc (oP (R.getD k p0))) := hJ _ _ _ none hJk (World.grownBy_alloc _ _ none) (fun r e => by cases e)
      obtain ⟨fn, tmps, assign, body, hy, hRd⟩ := hY (evP R k) (ahd R k, R.getD k p0) _ hJ2 (by rw [evP_len]; exact hlt)
      have hev : evP R (k + 1) = evP R k ++ [(ahd R k, R.getD k p0)] := rfl
      have hah : ahd R (k + 1) = ahd R k + (R.getD k p0).w := rfl
      have hbox := heap_alloc_new wr (oP (R.getD k p0))
      have hr3 := (KB.al B wr (oP (R.getD k p0))).row hrr hgB
      obtain ⟨x, hx'⟩ : ∃ z_, (R.getD k p0) = z_ := ⟨_, rfl⟩
      rw [hx'] at hcc hx hy hRd hev hah hbox hr3 hJ2
      obtain ⟨xs, xw⟩ := x
      simp only at hx hah
      have c0 := hcc 0 (by decide)
      have c1 := hcc 1 (by decide)
      simp only [List.getElem?_cons_succ, List.getElem?_cons_zero, Nat.add_zero, ← Nat.add_assoc] at c0 c1
      subst ha
      replace hev := Lib.hid hev
      replace hah := Lib.hid hah
      replace hJ2 := Lib.hid hJ2
      replace hbox := Lib.hid hbox
      replace hr3 := Lib.hid hr3
      replace hRd := Lib.hid hRd
      dsimp only [encP] at hy
      clear hcc hx' hJk
      gi_wp2
      refine hRd.out.mono ?_
      rintro e W4 (⟨rfl, hJ4, hk4⟩ | ⟨rfl, hJx4⟩)
      · obtain ⟨b0, b1⟩ := two (hk4.same _ _ hbox.out rfl (by omega))
        have hr4 := hk4.row hr3.out hgB
        have hs4 := hk4.size
        simp only [World.size_alloc] at hs4
        have ww : IntKind.i64.wrap (ahd R k + xw) = ahd R (k + 1) := by rw [hah.out, IntKind.wrap_i64]; omega
        have wt : IntKind.i64.wrap ((k : Int) + 1) = ((k + 1 : Nat) : Int) := by rw [IntKind.wrap_i64]; omega
        clear hrr hr hc
        replace hJ4 := Lib.hid hJ4
        replace hr4 := Lib.hid hr4
        gi_wp2
        go_roundw
        case rel => exact ⟨k + 1, by omega, by first | rfl | go_num, by first | rfl | (rw [hah.out]), hr4.out, by omega, by rw [hev.out]; exact hJ4.out⟩
        case measure => simp [intOf] <;> omega
      · gi_wp2
        refine bodyPost_ret (results_none rfl _ _ _) rfl ?_
        exact ⟨⟨_, rfl⟩, .inr ⟨_, by rw [← hev.out]; exact evP_pre R (by omega), hJx4⟩⟩
    · obtain rfl : k = R.length := by omega
      gi_wp2
      go_end0
      exact ⟨⟨_, rfl⟩, .inl ⟨_, rfl, hJk⟩⟩
end Go.Proofs.Ytndlglkokbchbaa.split
