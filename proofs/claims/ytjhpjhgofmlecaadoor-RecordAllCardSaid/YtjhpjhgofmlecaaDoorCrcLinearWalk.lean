/-
  The walk of CrcLinear.
-/
import Derived.Test.YtjhpjhgofmlecaaDoorCrcNoneWalk
import Derived.StillTailTactics
namespace Go.Proofs.YtjhpjhgofmlecaaDoor
open Go.RowKit Go.Wag
set_option linter.unusedVariables false

theorem set_next (T : List UInt8) (k g : Nat) (hk : k < T.length) (z : Value) (x : UInt8) (hx : x = T[k]) : ((T.take k).map v8 ++ List.replicate (g + 1) z).set k (.int .u8 (x.toNat : Int)) = (T.take (k + 1)).map v8 ++ List.replicate g z := by
  have hl : ((T.take k).map v8).length = k := by rw [List.length_map, List.length_take]; omega
  rw [List.set_append_right _ _ (by omega), hl, Nat.sub_self, List.replicate_succ, List.set_cons_zero, List.take_succ_eq_append_getElem hk, List.map_append, List.append_assoc, hx]
  rfl
theorem xorL_at (a b : List UInt8) (k : Nat) (ha : k < a.length) (hb : k < b.length) : ∃ h : k < (xorL a b).length, (xorL a b)[k] = a[k] ^^^ b[k] := by
  refine ⟨by simp [xorL]; omega, ?_⟩
  simp [xorL]
theorem xorL_take (a b : List UInt8) (m : Nat) : (xorL a b).take m = xorL (a.take m) (b.take m) := by
  unfold xorL; rw [List.take_zipWith]

end Go.Proofs.YtjhpjhgofmlecaaDoor
