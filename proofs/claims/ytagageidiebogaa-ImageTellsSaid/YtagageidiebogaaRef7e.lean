/-
  Contract of the document's Cut (written by gen_ref7e.py).
-/
import Derived.Test.YtagageidiebogaaExA
import Derived.Deep.Cut
namespace Go.Proofs.Ytagageidiebogaa
open Go.RowKit Go.Wag
set_option linter.unusedVariables false
set_option maxRecDepth 20000
end Go.Proofs.Ytagageidiebogaa
