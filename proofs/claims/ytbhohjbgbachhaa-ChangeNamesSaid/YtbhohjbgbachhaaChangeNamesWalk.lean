/-
  ChangeNames: the walk.
-/
import Derived.Test.YtbhohjbgbachhaaChAwake
namespace Go.Proofs.Ytbhohjbgbachhaa
open Go.RowKit Go.Wag
set_option linter.unusedVariables false
set_option maxRecDepth 20000
theorem ChangeNames_walk (w : World) : Calls Try.prog 4 #[] w (AwakePost w) := by
  go_enter Try.func4, Try.ntmps4
  go_wp2_with fail
  refine (awake10_any w).mono ?_
  rintro e w1 ⟨rfl, b1⟩
  go_wp2
  go_ret
  exact ⟨rfl, b1⟩
end Go.Proofs.Ytbhohjbgbachhaa
