/-
  ZoneCloses: the walk (written by gen_zonecloses.py).
-/
import Derived.Test.YtnjekhnheihooaaZoneRoomWalk
namespace Go.Proofs.Ytnjekhnheihooaa
open Go.RowKit Go.Wag
set_option linter.unusedVariables false

theorem chk_at {st rs n la size : Int} (h : 1 ≤ size ∧ size ≤ 1048576 ∧ 0 ≤ rs ∧ rs ≤ 1073741824 ∧ 0 ≤ st ∧ st ≤ 3 ∧ n ≤ size ∧ 0 ≤ la ∧ la ≤ n ∧ (st = 0 → n = 0) ∧ (st = 1 ∨ st = 2 → 0 < n ∧ n < size)) : chkF st rs n la size = true := by
  simpa only [chkF, decide_eq_true_eq] using h
theorem app_yes {st rs n la size m : Int} (hc : chkF st rs n la size = true) (h3 : st ≠ 3) (hm : m ≠ 0) (hle : m ≤ size - n) : appErrF st rs n la size m = 0 := by
  rw [appErr_cases _ hc hm, room_val hc, if_pos h3, if_pos hle]
theorem crK_nat {n : Nat} {la keep : Int} (h0 : 0 ≤ la) (h1 : la ≤ n) : ∃ k : Nat, crK n la keep = k ∧ k ≤ n := by
  refine ⟨(crK n la keep).toNat, ?_, ?_⟩
  · unfold crK
    omega
  · unfold crK
    omega

end Go.Proofs.Ytnjekhnheihooaa
