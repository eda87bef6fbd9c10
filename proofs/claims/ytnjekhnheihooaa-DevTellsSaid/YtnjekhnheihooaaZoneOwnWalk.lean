/-
  ZoneOwn: the walk (written by gen_zoneown.py).
-/
import Derived.Test.YtnjekhnheihooaaZoneClosesWalk
import Derived.Test.YtnjekhnheihooaaStore
import Derived.Deep.LoopGhost

namespace Go.Proofs.Ytnjekhnheihooaa
open Go.RowKit Go.Wag
set_option linter.unusedVariables false

theorem app_zero {st rs n la size m : Int} (h : appErrF st rs n la size m = 0) : chkF st rs n la size = true ∧ m ≠ 0 := by
  unfold appErrF at h
  by_cases hc : chkF st rs n la size = true ∧ m ≠ 0
  · exact hc
  · rw [if_neg hc] at h
    cases h
theorem app_first {st rs n la size m k : Int} (hm : 0 < m) (hk : 0 ≤ k) (h : appErrF st rs n la size (m + k) = 0) : appErrF st rs n la size m = 0 := by
  obtain ⟨hc, h0⟩ := app_zero h
  rw [appErr_cases _ hc h0] at h
  rw [appErr_cases _ hc (by omega), if_pos]
  by_cases hle : m + k ≤ roomF st rs n la size
  · omega
  · rw [if_neg hle] at h
    cases h
theorem xor255 (x : UInt8) : bits .xor .u8 (x.toNat : Int) 255 = ((x ^^^ 255).toNat : Int) := by
  have h := u8_xor_nat x.toNat 255 x.toNat_lt (by decide)
  rw [UInt8.toNat_xor]
  exact h

end Go.Proofs.Ytnjekhnheihooaa
