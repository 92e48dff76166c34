/-
  LeaseChecks is true for every input: how a rate is wrong, what an exact limiter admits, and the error, is the document's. No condition.
-/
import Derived.Test.YtifmoekgnbgnmaaWLeaseChecks
namespace Go.Proofs.Ytifmoekgnbgnmaa.leaseChecks
open Go.ChangeShapes Go.WideShapes Go.ChangeAt Go.RowKit
set_option linter.unusedVariables false
set_option linter.unusedSimpArgs false

theorem own : ownKnob Try.prog.godebug = none := by kernel_rfl
theorem laid : laidOutB Try.prog = true := by kernel_rfl
theorem reads : (Try.f3.params.toList.all fun t => Try.prog.readableRec t && decide (t < Try.prog.types.size)) = true := by kernel_rfl
theorem cellTsS0 : Try.prog.cellTypes Try.prog.depth 23 = some [3, 3, 3] := by kernel_rfl
theorem cellsS0 : Try.prog.cellsOf 23 = 3 := by kernel_rfl

set_option maxRecDepth 100000 in
theorem lifted (os : Os) (started : os.Started) (H : Type) (enc : TypeId × Value → H) :
    ReturnsInHanded {} Try.checked os 3 .any (Rows.leaseChecksSpec.pre6 enc Try.prog Try.f3 Rows.leaseChecksRow.domain false) (Rows.leaseChecksSpec.post enc Try.prog Try.f3 false true false false) := by
  refine returnsInHanded_of_change (C := Try.checked) own started (by kernel_rfl) Try.func3
    (ChangeSpec.witness6 (enc := enc) (C := Try.checked) false ⟨#[], #[.agg #[.int .i64 0, .int .i64 0, .int .i64 0], .int .i64 0, .int .i64 0, .int .i64 0], []⟩ 8 (by kernel_rfl) (by kernel_rfl) (by kernel_rfl) (by kernel_rfl)) ?_
  intro W base args ds gs before hval0 hW hcnd _
  have hval : ∀ (j : Nat) t v, Try.f3.params[j]? = some t → args[j]? = some v → Value.okWide Try.prog W .any base t v := hval0
  have hW' := hW
  have hlt := hW.lt
  obtain ⟨p, q, hA0, hV, rfl, hfz, hnd⟩ := hW
  have hA : DataW.TrodAll enc Try.prog W 0 (fun _ => true) true Try.f3.params.toList args.toList ds p := hA0
  rw [Try.params3] at hA hval
  obtain ⟨v0, vs0, d0, ds0, p0, q0, hargs, rfl, rfl, h0, r0⟩ := trodAll_cons hA
  obtain ⟨v1, vs1, d1, ds1, p1, q1, rfl, rfl, rfl, h1, r1⟩ := trodAll_cons r0
  obtain ⟨v2, vs2, d2, ds2, p2, q2, rfl, rfl, rfl, h2, r2⟩ := trodAll_cons r1
  obtain ⟨v3, vs3, d3, ds3, p3, q3, rfl, rfl, rfl, h3, r3⟩ := trodAll_cons r2
  obtain ⟨rfl, rfl, rfl⟩ := trodAll_nil r3
  obtain rfl : args = #[v0, v1, v2, v3] := by cases args; simp_all
  obtain ⟨rfl, rfl⟩ := trodVars_none hV
  obtain ⟨cs0, rfl, hn0, hcs0⟩ := agg_cells (Or.inl ⟨_, Try.underlying23⟩) cellTsS0 cellsS0 rfl (hval 0 23 v0 rfl rfl)
  obtain ⟨cl0⟩ := cs0
  rcases cl0 with _ | ⟨e0_0, _ | ⟨e0_1, _ | ⟨e0_2, _ | ⟨e0_3, l0_z⟩⟩⟩⟩ <;> simp only [List.size_toArray, List.length_nil, List.length_cons] at hn0 <;> try omega
  obtain ⟨a0_0, rfl, l0_0, u0_0⟩ := cell_i64 Try.underlying3 (hcs0 0 _ _ rfl rfl)
  obtain ⟨a0_1, rfl, l0_1, u0_1⟩ := cell_i64 Try.underlying3 (hcs0 1 _ _ rfl rfl)
  obtain ⟨a0_2, rfl, l0_2, u0_2⟩ := cell_i64 Try.underlying3 (hcs0 2 _ _ rfl rfl)
  obtain ⟨a1, rfl, l1, u1⟩ := open_i64 Try.underlying3 (hval 1 3 v1 rfl rfl) h1
  obtain ⟨a2, rfl, l2, u2⟩ := open_i64 Try.underlying3 (hval 2 3 v2 rfl rfl) h2
  obtain ⟨a3, rfl, l3, u3⟩ := open_i64 Try.underlying3 (hval 3 3 v3 rfl rfl) h3
  refine (walk (w := W) a0_0 l0_0 u0_0 a0_1 l0_1 u0_1 a0_2 l0_2 u0_2 a1 l1 u1 a2 l2 u2 a3 l3 u3).mono fun e W' ⟨he, hg⟩ => ?_
  subst he
  exact ⟨_, rfl, law_post laid (reads_all reads) rfl Try.underlying4 rfl hW' rfl rfl rfl hg⟩

theorem over : Rows.leaseChecksRow.holds Try.pinned (OpenSpec.ofChange Rows.leaseChecksSpec) :=
  OpenClaim.holds_of_wide 3 Try.f3 rfl rfl rfl rfl rfl rfl rfl ⟨rfl, rfl, rfl, rfl, rfl⟩ rfl rfl rfl rfl rfl (by kernel_rfl) Try.func3 (by kernel_rfl)
    (of_decide_eq_true (by kernel_rfl)) (by unfold Func.isWrapper; first | (rw [if_pos (by decide +kernel)]; kernel_rfl) | (rw [if_neg (by decide +kernel)]; exact ⟨rfl, rfl⟩))
    (fun os started H enc _ => lifted os started H enc)

theorem proved : Rows.LeaseChecksSaid := over
#print axioms proved
end Go.Proofs.Ytifmoekgnbgnmaa.leaseChecks
