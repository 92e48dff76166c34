/-
  Worlds that differ in some blocks alone, and in new ones.
-/
import Derived.Test.YtnmehmlenbbfbaaGen
namespace Go.Proofs.Ytnmehmlenbbfbaa
open Go.ChangeShapes Go.WideShapes Go.ChangeAt Go.RowKit
set_option linter.unusedVariables false
set_option linter.unusedSimpArgs false

/-- Nothing turned but the blocks of ps; and new ones came. -/
structure Tch (ps : Nat → Prop) (w w' : World) : Prop where
  os : w'.os = w.os
  tape : w'.tape = w.tape
  output : w'.output = w.output
  size : w.heap.size ≤ w'.heap.size
  block : ∀ k, k < w.heap.size → ¬ ps k → w'.heap[k]? = w.heap[k]?
theorem Tch.rfl' (ps : Nat → Prop) (w : World) : Tch ps w w := ⟨rfl, rfl, rfl, Nat.le_refl _, fun _ _ _ => rfl⟩
theorem Tch.bl {ps : Nat → Prop} {w w' : World} (h : Bl w w') : Tch ps w w' := ⟨h.os, h.tape, h.output, h.size, fun k hk _ => h.block k hk⟩
theorem Tch.gby {ps : Nat → Prop} {w w' : World} {p : Nat} (h : w.grownBy w' (some p)) (hp : ps p) : Tch ps w w' := ⟨h.os, h.tape, h.output, h.size, fun k hk hn => h.block k hk (fun e => hn (by cases e; exact hp))⟩
theorem Tch.tr {ps : Nat → Prop} {a b c : World} (h : Tch ps a b) (k : Tch ps b c) : Tch ps a c :=
  ⟨k.os.trans h.os, k.tape.trans h.tape, k.output.trans h.output, Nat.le_trans h.size k.size, fun i hi hn => (k.block i (Nat.lt_of_lt_of_le hi h.size) hn).trans (h.block i hi hn)⟩
theorem Tch.mono {ps qs : Nat → Prop} {w w' : World} (h : Tch ps w w') (hq : ∀ k, ps k → qs k) : Tch qs w w' := ⟨h.os, h.tape, h.output, h.size, fun k hk hn => h.block k hk (fun hp => hn (hq k hp))⟩
theorem Tch.var {ps : Nat → Prop} {w w' : World} {x : Nat} {o : Obj} (h : Tch ps w w') (hx : w.heap[x]? = some o) (hn : ¬ ps x) : w'.heap[x]? = some o := by
  rw [h.block x (lt_of_block hx) hn]; exact hx
theorem Bl.tch {ps : Nat → Prop} {w0 w w' : World} (h : Bl w0 w) (k : Tch ps w w') (hp : ∀ k, ps k → w0.heap.size ≤ k) : Bl w0 w' :=
  ⟨k.os.trans h.os, k.tape.trans h.tape, k.output.trans h.output, Nat.le_trans h.size k.size, fun i hi => (k.block i (Nat.lt_of_lt_of_le hi h.size) (fun hh => by have := hp i hh; omega)).trans (h.block i hi)⟩
theorem Tch.own {ps : Nat → Prop} {w w' : World} {base size n : Nat} {e : TypeId} {v : Value} {xs : List Value} (k : Tch ps w w') (h : w.ownsRow base e size v n xs) (hn : ∀ p, base ≤ p → ¬ ps p) : w'.ownsRow base e size v n xs := by
  refine ⟨h.1, ?_⟩
  rcases h.2 with h2 | ⟨g, cap, cur, rfl, hb, hg, rest⟩
  · exact Or.inl h2
  · exact Or.inr ⟨g, cap, cur, rfl, hb, by rw [k.block g (lt_of_block hg) (hn g hb)]; exact hg, rest⟩
end Go.Proofs.Ytnmehmlenbbfbaa
