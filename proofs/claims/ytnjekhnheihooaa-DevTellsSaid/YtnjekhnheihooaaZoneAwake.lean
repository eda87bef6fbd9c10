/-
  The calls at every statement's head of stage 3 answer as the document says (written by gen_zoneawake.py).
-/
import Derived.Test.YtnjekhnheihooaaZoneSame
namespace Go.Proofs.Ytnjekhnheihooaa
open Go.RowKit Go.Wag
set_option linter.unusedVariables false

theorem slB (w : World) (l : List UInt8) (cells : Array Value) (hc : (l.map v8).toArray = cells) (hl : l.length ≤ 1000) : Sl (w.alloc (.cells cells 5)) (some ⟨w.heap.size, 0, none⟩) l.length l.length (l.map v8) := by
  subst hc
  exact sl8 w l hl

end Go.Proofs.Ytnjekhnheihooaa
