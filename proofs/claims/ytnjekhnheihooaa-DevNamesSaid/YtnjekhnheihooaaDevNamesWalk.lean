/-
  DevNames: the walk.
-/
import Derived.Test.YtnjekhnheihooaaDevAwake
import Derived.Test.YtnjekhnheihooaaArgs
namespace Go.Proofs.Ytnjekhnheihooaa
open Go.RowKit Go.Wag
set_option linter.unusedVariables false

theorem DevNames_walk (w : World) : Calls Try.prog 3 #[] w (AwakePost w) := by
  go_enter Try.func3, Try.ntmps3
  go_wp2_with fail
  refine (awake4_any w).mono ?_
  rintro e w1 ⟨rfl, b1⟩
  go_wp2
  go_ret
  exact ⟨rfl, b1⟩
end Go.Proofs.Ytnjekhnheihooaa
