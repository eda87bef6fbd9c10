/-
  ZoneRoom: the walk (written by gen_zoneroom.py).
-/
import Derived.Test.YtnjekhnheihooaaZoneAppendsWalk
namespace Go.Proofs.Ytnjekhnheihooaa
open Go.RowKit Go.Wag
set_option linter.unusedVariables false

theorem iwrap_small {x : Int} (h0 : -9223372036854775808 ≤ x) (h1 : x < 9223372036854775808) : IntKind.i64.wrap x = x := by
  rw [IntKind.wrap_i64]
  omega
theorem rep8 (k : Nat) : List.replicate k (Value.int .u8 0) = (List.replicate k (0 : UInt8)).map v8 := by
  rw [List.map_replicate]
  rfl
theorem room_nat {st rs n la size : Int} (hc : chkF st rs n la size = true) (hn : 0 ≤ n) : ∃ r : Nat, roomF st rs n la size = r ∧ (r : Int) ≤ size ∧ (st = 3 → r = 0) ∧ (st ≠ 3 → (r : Int) = size - n ∧ 0 < r) := by
  have h := chk_all hc
  rw [room_val hc]
  by_cases h3 : st = 3
  · refine ⟨0, by simp [h3], by omega, fun _ => rfl, fun h => absurd h3 h⟩
  · refine ⟨(size - n).toNat, ?_, by omega, fun h => absurd h h3, fun _ => ⟨by omega, by omega⟩⟩
    rw [if_pos h3]
    omega

end Go.Proofs.Ytnjekhnheihooaa
