/-
  Contracts of the small functions of package le and of the document's answer: sizes, letters, whether a number fits, what bytes are, a number's bytes put behind.
-/
import Derived.Test.YtagageidiebogaaRows
import Derived.Test.YtagageidiebogaaLeMath
namespace Go.Proofs.Ytagageidiebogaa
open Go.RowKit Go.Wag
set_option linter.unusedVariables false
set_option maxRecDepth 20000

theorem i5 : (Try.prog.info? 5).map (fun i => (i.zero, i.size, i.bytes)) = some (some (.int .u8 0), 1, 1) := by kernel_rfl
theorem sz5 : (Try.prog.info? 5).map (·.size) = some 1 := by kernel_rfl
theorem el22 : Try.prog.elem 37 = 5 := by kernel_rfl
theorem un22 : Try.prog.underlying 37 = some (.slice (Try.prog.elem 37)) := by kernel_rfl

/-- What is behind 'appendNumber': the row, s bytes longer. -/
def AppPost (base : Nat) (w : World) (v : Value) (n : Nat) (xs : List Value) (s N : Nat) (e : Ending) (w' : World) : Prop :=
  ∃ A' c', e = .returned (.slice A' (n + s) c') ∧ Own base 5 w w' v (.slice A' (n + s) c') (n + s) (xs ++ (leb s N).map v8)

end Go.Proofs.Ytagageidiebogaa
