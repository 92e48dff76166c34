/-
  The law's admits.
-/
import Derived.Test.YtifmoekgnbgnmaaWinB
import Derived.Test.YtifmoekgnbgnmaaTch
namespace Go.Proofs.Ytifmoekgnbgnmaa.lease
open Go.ChangeShapes Go.WideShapes Go.ChangeAt Go.RowKit
set_option linter.unusedVariables false
set_option linter.unusedSimpArgs false

theorem ask_bd {L W S c : Int} (hb : okR L W S) (c0 : 0 ≤ c) (c1 : c ≤ L) : 0 ≤ lease.ask L S c ∧ lease.ask L S c ≤ 1000 ∧ c + lease.ask L S c ≤ L := by
  obtain ⟨l0, l1, w0, w1, s0, s1⟩ := hb
  unfold lease.ask; omega
theorem LB.tch {T} {ps : Nat → Prop} {w w' : World} {p L W S k n} (h : LB T w p L W S k n) (t : Tch ps w w') (hn : ¬ ps p) : LB T w' p L W S k n := t.var h hn

set_option maxHeartbeats 1000000 in
theorem admits_any (w : World) (pL pC : Nat) (L W S : Int) (lim c : Int × Int) (t : Int) (hL : LB 65 w pL L W S lim.1 lim.2) (hC : LB 66 w pC L W S c.1 c.2) (hne : pL ≠ pC) (hb : okR L W S) (t0 : 0 ≤ t) (t1 : t ≤ 1000000)
    (l0 : 0 ≤ lim.2) (l1 : lim.2 ≤ L) (c0 : 0 ≤ c.2) (c1 : c.2 ≤ 1000) :
    Calls Try.prog 32 #[ptr pL, ptr pC, .int .i64 t] w fun e w' => e = .returned (.bool (admit L W S lim c t).2.2) ∧ LB 65 w' pL L W S (admit L W S lim c t).1.1 (admit L W S lim c t).1.2 ∧
      LB 66 w' pC L W S (admit L W S lim c t).2.1.1 (admit L W S lim c t).2.1.2 ∧ Tch (fun k => k = pL ∨ k = pC) w w' := by
  obtain ⟨lk, ln⟩ := lim
  obtain ⟨ck, cn⟩ := c
  simp only at *
  have U := use_any w pC L W S ck cn t hC hb t0 t1 c0 (by omega)
  have AL := fun (w : World) h => ask_any w pL L W S lk ln t h hb t0 t1 l0 l1
  have hcb := cur_bd (W := W) (k := lk) (t := t) l0 l1
  unfold admit
  simp only
  by_cases hc : 0 < cur W ck cn t
  · rw [if_pos hc]
    rw [decide_eq_true hc, show less (cur W ck cn t) = cur W ck cn t - 1 from if_pos hc] at U
    replace U := Lib.hid U
    replace hL := Lib.hid hL
    clear hC AL hc
    go_enter Try.func32, Try.ntmps32
    go_wp2_with fail
    refine U.out.mono ?_
    rintro e w1 ⟨rfl, h1, g1⟩
    have r1 := Lib.hid (hL.out.gby g1 hne)
    replace h1 := Lib.hid h1; replace g1 := Lib.hid g1
    go_wp2_with fail
    go_ret
    exact ⟨rfl, r1.out, h1.out, Tch.gby g1.out (Or.inr rfl)⟩
  · rw [if_neg hc]
    rw [decide_eq_false hc, show less (cur W ck cn t) = cur W ck cn t from if_neg hc] at U
    have hcz := (cur_bd (W := W) (k := ck) (t := t) c0 c1).1
    obtain ⟨cz, hcz'⟩ : ∃ q, cur W ck cn t = q := ⟨_, rfl⟩
    rw [hcz'] at U hcz hc
    obtain rfl : cz = 0 := by omega
    have am := ask_bd hb hcb.1 hcb.2
    obtain ⟨cl, hcl⟩ : ∃ q, cur W lk ln t = q := ⟨_, rfl⟩
    simp only [hcl] at AL am ⊢
    obtain ⟨m, hm⟩ : ∃ q, lease.ask L S cl = q := ⟨_, rfl⟩
    simp only [hm] at AL am ⊢
    have GV := fun (w : World) h => give_any w pC L W S (t / W) 0 t m h hb t0 t1 (by omega) (by omega) am.1 (by omega)
    simp only [show cur W (t / W) 0 t = 0 from if_pos rfl, Int.zero_add] at GV
    have U2 := fun (w : World) h => use_any w pC L W S (t / W) m t h hb t0 t1 am.1 (by omega)
    simp only [show cur W (t / W) m t = m from if_pos rfl] at U2
    replace U := Lib.hid U; replace U2 := Lib.hid U2; replace GV := Lib.hid GV; replace AL := Lib.hid AL
    replace hL := Lib.hid hL
    clear hC hc hcz hcz'
    go_enter Try.func32, Try.ntmps32
    go_wp2_with fail
    refine U.out.mono ?_
    rintro e w1 ⟨rfl, h1, g1⟩
    have r1 := Lib.hid (hL.out.gby g1 hne)
    replace h1 := Lib.hid h1; replace g1 := Lib.hid g1
    go_wp2_with fail
    refine (AL.out _ r1.out).mono ?_
    rintro e w2 ⟨rfl, r2, g2⟩
    have h2 := Lib.hid (h1.out.gby g2 (fun e => hne e.symm))
    replace r2 := Lib.hid r2; replace g2 := Lib.hid g2
    go_wp2_with fail
    refine (GV.out _ h2.out).mono ?_
    rintro e w3 ⟨rfl, h3, g3⟩
    have r3 := Lib.hid (r2.out.gby g3 hne)
    replace h3 := Lib.hid h3; replace g3 := Lib.hid g3
    go_wp2_with fail
    refine (U2.out _ h3.out).mono ?_
    rintro e w4 ⟨rfl, h4, g4⟩
    have r4 := Lib.hid (r3.out.gby g4 hne)
    replace h4 := Lib.hid h4; replace g4 := Lib.hid g4
    go_wp2_with fail
    go_ret
    exact ⟨rfl, r4.out, h4.out, (((Tch.gby g1.out (Or.inr rfl)).tr (Tch.gby g2.out (Or.inl rfl))).tr (Tch.gby g3.out (Or.inr rfl))).tr (Tch.gby g4.out (Or.inr rfl))⟩
end Go.Proofs.Ytifmoekgnbgnmaa.lease
