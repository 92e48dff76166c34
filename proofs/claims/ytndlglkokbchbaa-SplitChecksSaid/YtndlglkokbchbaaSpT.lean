/-
  Package split: rows of parts.
-/
import Derived.Test.YtndlglkokbchbaaRow
import Derived.Test.YtndlglkokbchbaaKit2
namespace Go.Proofs.Ytndlglkokbchbaa.split
open Go.ChangeShapes Go.WideShapes Go.ChangeAt Go.RowKit
set_option linter.unusedVariables false
set_option linter.unusedSimpArgs false

/-- A part. -/
structure Pt where
  s : Int
  w : Int
abbrev pB (x : Pt) : List Value := [I x.s, I x.w]
abbrev p0 : Pt := ⟨0, 0⟩
theorem pB_len : ∀ x, (pB x).length = 2 := fun _ => rfl
abbrev pv (x : Pt) : Value := .agg #[I x.s, I x.w]
abbrev oP (x : Pt) : Obj := .cells #[I x.s, I x.w] 25
end Go.Proofs.Ytndlglkokbchbaa.split
