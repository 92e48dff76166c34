/-
  Package cert: Check.
-/
import Derived.Test.YtajnhjcinpdfhaaCrA
namespace Go.Proofs.Ytajnhjcinpdfhaa.cert
open Go.ChangeShapes Go.WideShapes Go.ChangeAt Go.RowKit
set_option linter.unusedVariables false
set_option linter.unusedSimpArgs false

/-- What Check tells. -/
def chkE (U : List Int) (G : List Crt) (S : List Int) (c : Crt) (v now : Int) : Int :=
  if gvB G c = false then 20 else if (c.v != v) = true then 20 else if trB U c.r now = false then 20 else if decide (c.s ∈ S) = true then 22 else if (decide (now < c.f) || decide (c.t ≤ now)) = true then 21 else 0

structure Boxed (w : World) (p : Nat) (c : Crt) (v now : Int) (y4 y5 y6 y7 : Nat) : Prop where
  h4 : w.heap[y4]? = some (.cells #[ptr p] 25 (0, 0))
  h5 : w.heap[y5]? = some (.cells #[I c.s, I c.r, I c.v, I c.f, I c.t] 24 (0, 0))
  h6 : w.heap[y6]? = some (.cells #[I v] 3 (0, 0))
  h7 : w.heap[y7]? = some (.cells #[I now] 3 (0, 0))
theorem Boxed.bl {w w' p c v now y4 y5 y6 y7} (h : Boxed w p c v now y4 y5 y6 y7) (hb : Bl w w') : Boxed w' p c v now y4 y5 y6 y7 := ⟨blk_bl h.h4 hb, blk_bl h.h5 hb, blk_bl h.h6 hb, blk_bl h.h7 hb⟩
theorem Boxed.c {w p c v now y4 y5 y6 y7} (h : Boxed w p c v now y4 y5 y6 y7) : w.cell? ⟨y4, 0, none⟩ = some (ptr p) ∧ (w.cell? ⟨y5, 0, none⟩ = some (I c.s) ∧ w.cell? ⟨y5, 1, none⟩ = some (I c.r) ∧ w.cell? ⟨y5, 2, none⟩ = some (I c.v) ∧ w.cell? ⟨y5, 3, none⟩ = some (I c.f) ∧ w.cell? ⟨y5, 4, none⟩ = some (I c.t)) ∧ w.cell? ⟨y6, 0, none⟩ = some (I v) ∧ w.cell? ⟨y7, 0, none⟩ = some (I now) := by
  refine ⟨by rw [cell_at h.h4]; rfl, ⟨?_, ?_, ?_, ?_, ?_⟩, by rw [cell_at h.h6]; rfl, by rw [cell_at h.h7]; rfl⟩ <;> (rw [cell_at h.h5]; rfl)

variable {ks : Nat → Prop} {w : World} {p : Nat} {U : List Int} {G : List Crt} {S : List Int} {c : Crt} {v now : Int} {y4 y5 y6 y7 : Nat}
def okCrt (c : Crt) : Prop := (-9223372036854775808 ≤ c.s ∧ c.s ≤ 9223372036854775807) ∧ (-9223372036854775808 ≤ c.r ∧ c.r ≤ 9223372036854775807)

theorem c1_any (h : CA ks w p U G S) (hG : G.length ≤ 1000) (hx : Boxed w p c v now y4 y5 y6 y7) (hc : okCrt c) : Calls Try.prog 19 #[ptr y4, ptr y5] w fun e w' => e = .returned (.bool (!gvB G c)) ∧ Bl w w' := by
  have GV := Lib.hid (gave_any h hG c hc.1.1 hc.1.2)
  obtain ⟨c4, ⟨q0, q1, q2, q3, q4⟩, c6, c7⟩ := hx.c
  clear h hx hc
  go_enter Try.func19, Try.ntmps19
  go_wp2_with fail
  first | with_reducible refine (GV.out).mono ?_ | refine (GV.out).mono ?_
  rintro e w' ⟨rfl, hb⟩
  go_wp2_with fail
  go_ret
  exact ⟨ret_bool (by simp), hb⟩
theorem c2_any (hx : Boxed w p c v now y4 y5 y6 y7) : Calls Try.prog 21 #[ptr y5, ptr y6] w fun e w' => e = .returned (.bool (c.v != v)) ∧ Bl w w' := by
  obtain ⟨c4, ⟨q0, q1, q2, q3, q4⟩, c6, c7⟩ := hx.c
  clear hx
  go_enter Try.func21, Try.ntmps21
  go_wp2_with fail
  go_ret
  exact ⟨ret_bool (by simp), Bl.rfl' _⟩
theorem c3_any (h : CA ks w p U G S) (hU : U.length ≤ 1000) (hx : Boxed w p c v now y4 y5 y6 y7) (hc : okCrt c) : Calls Try.prog 22 #[ptr y4, ptr y5, ptr y7] w fun e w' => e = .returned (.bool (!trB U c.r now)) ∧ Bl w w' := by
  have TR := Lib.hid (trusts_any h hU c.r now hc.2.1 hc.2.2)
  obtain ⟨c4, ⟨q0, q1, q2, q3, q4⟩, c6, c7⟩ := hx.c
  clear h hx hc
  go_enter Try.func22, Try.ntmps22
  go_wp2_with fail
  first | with_reducible refine (TR.out).mono ?_ | refine (TR.out).mono ?_
  rintro e w' ⟨rfl, rfl⟩
  go_wp2_with fail
  go_ret
  exact ⟨ret_bool (by simp), Bl.rfl' _⟩
theorem c4_any (h : CA ks w p U G S) (hx : Boxed w p c v now y4 y5 y6 y7) : Calls Try.prog 24 #[ptr y4, ptr y5] w fun e w' => e = .returned (.bool (decide (c.s ∈ S))) ∧ Bl w w' := by
  obtain ⟨au, gu, cu, ag, gg, cg, mr, h1, -, -, ⟨n, hm⟩, -, -⟩ := h.read
  have z2 := cell_at h1 2
  simp only [List.getElem?_toArray, List.getElem?_cons_succ, List.getElem?_cons_zero] at z2
  obtain ⟨c4, ⟨q0, q1, q2, q3, q4⟩, c6, c7⟩ := hx.c
  have L := fun k => ((hm.bl (Bl.drewN w k)).run_look intKey Try.underlying49 Try.underlying3 (zeroB (w.drewN k)) c.s).1
  simp only [revF_get] at L
  clear h hx h1 hm
  go_enter Try.func24, Try.ntmps24
  go_wp2_with fail
  go_quiet (fail)
  go_wp2_with fail
  go_ret
  exact ⟨ret_bool (by simp), Bl.drewN _ _⟩
theorem c5_any (hx : Boxed w p c v now y4 y5 y6 y7) : Calls Try.prog 25 #[ptr y7, ptr y5] w fun e w' => e = .returned (.bool (decide (now < c.f) || decide (c.t ≤ now))) ∧ Bl w w' := by
  obtain ⟨c4, ⟨q0, q1, q2, q3, q4⟩, c6, c7⟩ := hx.c
  clear hx
  by_cases e1 : now < c.f
  · have d1 : decide (now < c.f) = true := decide_eq_true e1
    rw [d1]
    go_enter Try.func25, Try.ntmps25
    go_wp2_with fail
    go_ret
    exact ⟨ret_bool (by simp), Bl.rfl' _⟩
  · have d1 : decide (now < c.f) = false := decide_eq_false e1
    rw [d1]
    go_enter Try.func25, Try.ntmps25
    go_wp2_with fail
    go_ret
    exact ⟨ret_bool (by simp), Bl.rfl' _⟩
end Go.Proofs.Ytajnhjcinpdfhaa.cert
