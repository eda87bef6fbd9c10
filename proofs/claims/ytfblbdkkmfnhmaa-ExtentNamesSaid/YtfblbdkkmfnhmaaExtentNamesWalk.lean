/-
  ExtentNames: the walk.
-/
import Derived.Test.YtfblbdkkmfnhmaaExtAwake
namespace Go.Proofs.Ytfblbdkkmfnhmaa
open Go.RowKit Go.Wag
set_option linter.unusedVariables false
set_option maxRecDepth 20000

theorem ExtentNames_walk (w : World) : Calls Try.prog 3 #[] w (AwakePost w) := by
  go_enter Try.func3, Try.ntmps3
  go_wp2_with fail
  refine (awake7_any w).mono ?_
  rintro e w1 ⟨rfl, b1⟩
  go_wp2
  go_ret
  exact ⟨rfl, b1⟩
end Go.Proofs.Ytfblbdkkmfnhmaa
