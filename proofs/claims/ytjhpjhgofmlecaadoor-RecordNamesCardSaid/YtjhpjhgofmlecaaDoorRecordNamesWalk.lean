/-
  RecordNames: the walk.
-/
import Derived.Test.YtjhpjhgofmlecaaDoorRecAwake
namespace Go.Proofs.YtjhpjhgofmlecaaDoor
open Go.RowKit Go.Wag
set_option linter.unusedVariables false

theorem RecordNames_walk (w : World) (hT : Tab w) : Calls Tryd.prog 3 #[] w (AwakePost w) := by
  go_enter Tryd.func3, Tryd.ntmps3
  go_wp2_with fail
  refine (awake5_any w hT).mono ?_
  rintro e w1 ⟨rfl, b1⟩
  go_wp2
  go_ret
  exact ⟨rfl, b1⟩
end Go.Proofs.YtjhpjhgofmlecaaDoor
