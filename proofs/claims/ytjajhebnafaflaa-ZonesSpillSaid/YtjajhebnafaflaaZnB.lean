/-
  Package zones: those, round by round.
-/
import Derived.Test.YtjajhebnafaflaaZnA
namespace Go.Proofs.Ytjajhebnafaflaa.zones
open Go.ChangeShapes Go.WideShapes Go.ChangeAt Go.RowKit Go.Shelf
set_option linter.unusedVariables false
set_option linter.unusedSimpArgs false
attribute [local go_sem] Oper.semAt_some

abbrev encI (x : Int) : Array Value := #[I x]

set_option maxRecDepth 100000 in
set_option maxHeartbeats 4000000 in
theorem those1_in (n : Nat) (hn : 1 ≤ n) (l Bn Bf B base g o cap : Nat) (a : Option Addr) (R : List En) (hl : R.length ≤ 1000) (fn : Nat) (caps : Array Value) (p : En → Bool) (J Jx : List Int → World → Prop) (W : World)
    (hJ : AbidesFrom W.heap.size J) (hgB : g ≠ B) (hgb : g < base) (hbW : base ≤ W.heap.size) (hnB : Bn ≠ B) (hnb : Bn < base) (hfB : Bf ≠ B) (hfb : Bf < base) 
    (hc : W.heap[Bn]? = some (.cells #[.slice a R.length cap] 23 (0, 0))) (hf : W.heap[Bf]? = some (.cells #[.func (.func fn) #[] caps] 38 (0, 0))) (hr : RowZ W g o a R) (hp : IsF B base W fn caps p)
    (hY : ∀ pre x W1, J pre W1 → pre.length < R.length → YieldAt Fence.wide (n - 1) Try.prog l (encI x) W1 fun e W' =>
      (e = .returned (.bool true) ∧ J (pre ++ [x]) W' ∧ KQ B base W1 W') ∨ (e = .returned (.bool false) ∧ Jx (pre ++ [x]) W')) (h0 : J [] W) :
    CallsIn Fence.wide n Try.prog 34 #[.func (.yield l) #[] #[], .pointer (some ⟨Bn, 0, none⟩), .pointer (some ⟨Bf, 0, none⟩)] W fun e W' => (∃ v, e = .returned v) ∧
      ((∃ xs, xs = evZ p R R.length ∧ J xs W') ∨ (∃ pre, pre <+: evZ p R R.length ∧ Jx pre W')) := by
  have hent := hp.ent
  have hcB := cell_at hc 0
  simp only [List.getElem?_toArray, List.getElem?_cons_zero] at hcB
  refine callsIn_of_wp Try.func34 rfl trivial ?_ rfl
  simp only [Try.ntmps34, List.size_toArray, List.length_cons, List.length_nil, Nat.reduceAdd, Nat.reduceSub, Array.replicate_succ, Array.replicate_zero, List.push_toArray, List.append_toArray, List.nil_append, List.cons_append]
  gi_wp2
  gi_loopw [8] (fun i wr => ∃ k : Nat, k ≤ R.length ∧ i = I k ∧ KQ B base W wr ∧ J (evZ p R k) wr) (fun i _ => R.length - (intOf i).toNat)
  case atStart => exact ⟨0, by omega, rfl, KQ.rfl' _ _ _, h0⟩
  case round =>
    obtain ⟨k, hk, rfl, hkq, hJk⟩ := hrel
    have hsz := hkq.size
    by_cases hlt : k < R.length
    · obtain ⟨ha, hcc⟩ := (hkq.row hr hgB hgb).c k hlt
      have hfr := cell_at (hkq.same _ _ hfb hf rfl hfB) 0
      simp only [List.getElem?_toArray, List.getElem?_cons_zero] at hfr
      have hbox := heap_alloc_new wr (oE (R.getD k e0))
      have hev1 := evZ_yes (p := p) (R := R) (k := k)
      have hev0 := evZ_no (p := p) (R := R) (k := k)
      have hlen := evZ_len p R k
      have T := hp.tells _ (hkq.tr (KQ.al B base wr (oE (R.getD k e0)))) (by simp; omega) (R.getD k e0)
      have hfa := (Below.cell ((Bl.rfl' wr).al (oE (R.getD k e0))) (p := ⟨Bf, 0, none⟩) (show Bf < wr.heap.size by omega)).trans hfr
      obtain ⟨x, hx'⟩ : ∃ z_, (R.getD k e0) = z_ := ⟨_, rfl⟩
      rw [hx'] at hcc hbox hev1 hev0 T hfa
      obtain ⟨xi, xs, xz⟩ := x
      have c0 := hcc 0 (by decide)
      have c1 := hcc 1 (by decide)
      have c2 := hcc 2 (by decide)
      simp only [List.getElem?_cons_succ, List.getElem?_cons_zero, Nat.add_zero, ← Nat.add_assoc] at c0 c1 c2
      subst ha
      obtain ⟨f, hf'⟩ : ∃ z_, (p ⟨xi, xs, xz⟩) = z_ := ⟨_, rfl⟩
      rw [hf'] at hev1 hev0 T
      dsimp only at hev1 hev0
      replace hev1 := Lib.hid hev1
      replace hev0 := Lib.hid hev0
      replace hbox := Lib.hid hbox
      replace T := Lib.hid T
      replace hp := Lib.hid hp
      replace hkq := Lib.hid hkq
      replace hr := Lib.hid hr
      clear hcc hx' hf'
      have wt : IntKind.i64.wrap ((k : Int) + 1) = ((k + 1 : Nat) : Int) := by rw [IntKind.wrap_i64]; omega
      gi_wp2
      refine ⟨trivial, (callsIn_wide.2 T.out).mono ?_⟩
      rintro e W2 ⟨rfl, hb2⟩
      have hbw : Bl wr W2 := ((Bl.rfl' wr).al _).tr hb2
      have hJ2 : J (evZ p R k) W2 := hJ _ _ _ none hJk (gby_of_bl hbw none) (fun r e => by cases e)
      have hk2 := hkq.out.tr (KQ.bl hbw)
      obtain ⟨b0, b1, b2⟩ := three (blk_bl hbox.out hb2)
      clear hJk hfr hfa c0 c1 c2 hsz hb2 hbw
      cases f with
      | false =>
        have hev := hev0.out rfl
        clear T hev1
        replace hJ2 := Lib.hid hJ2
        replace hk2 := Lib.hid hk2
        replace hev := Lib.hid hev
        gi_wp2
        refine ⟨fun f hf => (by cases hf), ?_⟩
        gi_wp2
        go_roundw
        case rel => exact ⟨k + 1, by omega, by first | rfl | go_num, hk2.out, by rw [hev.out]; exact hJ2.out⟩
        case measure => simp [intOf] <;> omega
      | true =>
        have hev := hev1.out rfl
        obtain ⟨fn', tmps', assign', body', hy, hRd⟩ := hY (evZ p R k) xi _ hJ2 (by omega)
        clear T hev0
        replace hJ2 := Lib.hid hJ2
        replace hk2 := Lib.hid hk2
        replace hev := Lib.hid hev
        replace hRd := Lib.hid hRd
        dsimp only [encI] at hy
        gi_wp2
        refine hRd.out.mono ?_
        rintro e W4 (⟨rfl, hJ4, hk4⟩ | ⟨rfl, hJx4⟩)
        · have hk5 := hk2.out.tr hk4
          clear hy
          replace hJ4 := Lib.hid hJ4
          replace hk5 := Lib.hid hk5
          replace hk4 := Lib.hid hk4
          gi_wp2
          go_roundw
          case rel => exact ⟨k + 1, by omega, by first | rfl | go_num, hk5.out, by rw [hev.out]; exact hJ4.out⟩
          case measure => simp [intOf] <;> omega
        · gi_wp2
          refine bodyPost_ret (results_none rfl _ _ _) rfl ?_
          exact ⟨⟨_, rfl⟩, .inr ⟨_, by rw [← hev.out]; exact evZ_pre p R (by omega), hJx4⟩⟩
    · obtain rfl : k = R.length := by omega
      gi_wp2
      go_end0
      exact ⟨⟨_, rfl⟩, .inl ⟨_, rfl, hJk⟩⟩
end Go.Proofs.Ytjajhebnafaflaa.zones
