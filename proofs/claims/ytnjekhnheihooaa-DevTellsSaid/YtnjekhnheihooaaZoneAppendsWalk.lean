/-
  ZoneAppends: the walk (written by gen_zoneappends.py).
-/
import Derived.Test.YtnjekhnheihooaaZoneAwake
import Derived.Test.YtnjekhnheihooaaArgs
import Derived.Test.YtnjekhnheihooaaJoin
namespace Go.Proofs.Ytnjekhnheihooaa
open Go.RowKit Go.Wag
set_option linter.unusedVariables false

theorem appErr_cases {st rs n la size : Int} (m : Int) (hc : chkF st rs n la size = true) (hm : m ≠ 0) : appErrF st rs n la size m = if m ≤ roomF st rs n la size then 0 else 30 := by
  unfold appErrF
  rw [if_pos ⟨hc, hm⟩]
theorem room_val {st rs n la size : Int} (hc : chkF st rs n la size = true) : roomF st rs n la size = if st ≠ 3 then size - n else 0 := by
  unfold roomF
  by_cases h : st ≠ 3
  · rw [if_pos ⟨hc, h⟩, if_pos h]
  · rw [if_neg (fun hh => h hh.2), if_neg h]
theorem chk_app {st rs n la size m : Int} (hc : chkF st rs n la size = true) (hm : 0 < m) (he : appErrF st rs n la size m = 0) : st ≠ 3 ∧ n + m ≤ size ∧ chkF (fullF (n + m) size) rs (n + m) la size = true := by
  rw [appErr_cases m hc (by omega), room_val hc] at he
  have h := chk_all hc
  by_cases h3 : st = 3
  · have e3 : (if st ≠ 3 then size - n else 0) = 0 := by simp [h3]
    rw [e3, if_neg (by omega)] at he
    cases he
  · rw [if_pos (show st ≠ 3 from h3)] at he
    by_cases hf : m ≤ size - n
    · refine ⟨h3, by omega, ?_⟩
      unfold fullF
      simp only [chkF, decide_eq_true_eq]
      split <;> omega
    · rw [if_neg hf] at he
      cases he
/-- Two parts and both at once: they are taken, or both at once are not. -/
theorem app_two {st rs n la size m k : Int} (hc : chkF st rs n la size = true) (hm : 0 < m) (hk : 0 < k) (h1 : appErrF st rs n la size m = 0) (h2 : appErrF (fullF (n + m) size) rs (n + m) la size k = 0) :
    appErrF st rs n la size (m + k) = 0 := by
  obtain ⟨h3, h4, h5⟩ := chk_app hc hm h1
  obtain ⟨h6, h7, -⟩ := chk_app h5 hk h2
  rw [appErr_cases _ hc (by omega), room_val hc, if_pos h3, if_pos (by omega)]
theorem app_not {st rs n la size m k : Int} (hc : chkF st rs n la size = true) (hm : 0 < m) (hk : 0 < k) (h : ¬ (appErrF st rs n la size m = 0 ∧ appErrF (fullF (n + m) size) rs (n + m) la size k = 0)) :
    appErrF st rs n la size (m + k) = 30 := by
  have hb := chk_all hc
  by_cases h1 : appErrF st rs n la size m = 0
  · obtain ⟨h3, h4, h5⟩ := chk_app hc hm h1
    have h2 : ¬ appErrF (fullF (n + m) size) rs (n + m) la size k = 0 := fun e => h ⟨h1, e⟩
    rw [appErr_cases k h5 (by omega), room_val h5] at h2
    rw [appErr_cases _ hc (by omega), room_val hc, if_pos h3, if_neg]
    intro hle
    apply h2
    have : fullF (n + m) size ≠ 3 := by
      unfold fullF
      split <;> omega
    rw [if_pos this, if_pos (by omega)]
  · rw [appErr_cases m hc (by omega), room_val hc] at h1
    rw [appErr_cases _ hc (by omega), room_val hc, if_neg]
    intro hle
    apply h1
    rw [if_pos]
    split at hle <;> split <;> omega

end Go.Proofs.Ytnjekhnheihooaa
