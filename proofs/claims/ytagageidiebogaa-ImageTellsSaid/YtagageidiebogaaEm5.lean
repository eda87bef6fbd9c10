/-
  Contracts of package extmap's joined and of what it hands back, an iterator (written by gen_em5.py).
-/
import Derived.Test.YtagageidiebogaaEm2
import Derived.RangeFuncNested
import Derived.RangeFuncBound
import Derived.RangeFuncCalls
import Derived.RangeFuncLeaves
import Derived.OwnWalkIn
import Derived.TacticsInMore
import Derived.LoopNIn
import Derived.LoopIn
import Derived.Deep.Cut
namespace Go.Wag
open Go.RowKit
set_option linter.unusedVariables false
theorem jgo_yes {x y : Xp} {xs : List Xp} {j : Nat} (hz : xs[j]? = some y) (h : xjoins x y = true) : jgo x (xs.drop j) = jgo (xboth x y) (xs.drop (j + 1)) := by
  rw [drop_one hz, jgo_cons, if_pos h]
theorem jgo_no {x y : Xp} {xs : List Xp} {j : Nat} (hz : xs[j]? = some y) (h : xjoins x y = false) : jgo x (xs.drop j) = x :: joinL (xs.drop j) := by
  rw [drop_one hz, jgo_cons, if_neg (by simp [h])]
  rfl
theorem jgo_end {x : Xp} {xs : List Xp} {j : Nat} (hj : xs.length ≤ j) : jgo x (xs.drop j) = x :: joinL (xs.drop j) := by
  rw [List.drop_of_length_le hj]
  rfl
theorem joinL_at {x : Xp} {xs : List Xp} {j : Nat} (hz : xs[j]? = some x) : joinL (xs.drop j) = jgo x (xs.drop (j + 1)) := by
  rw [drop_one hz]
  rfl
end Go.Wag
namespace Go.Proofs.Ytagageidiebogaa
open Go.RowKit Go.Wag
set_option linter.unusedVariables false
set_option linter.unusedSimpArgs false
set_option maxRecDepth 20000
/-- Where an extent's bytes may lie, that is handed on. -/
def HandOn (Fd : Nat → Prop) (W2 W1 : World) (x : Xp) (Ai : Option Addr) (mi ci : Nat) : Prop := Hid (x.l.length = mi) ∧ Sl W1 Ai mi ci (x.l.map v8) ∧ (0 < mi → ∀ ad, Ai = some ad → Fd ad.block ∨ W2.heap.size ≤ ad.block)
theorem HandOn.below {Fd : Nat → Prop} {W2 W1 W3 : World} {x : Xp} {Ai : Option Addr} {mi ci : Nat} (h : HandOn Fd W2 W1 x Ai mi ci) (hb : Below W1.heap.size W1 W3) : HandOn Fd W2 W3 x Ai mi ci := ⟨h.1, h.2.1.below hb, h.2.2⟩
end Go.Proofs.Ytagageidiebogaa
