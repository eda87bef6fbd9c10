/-
  The document's Append, Reset, Finish, Close, Flush, Crash of stage 3: contracts (written by gen_zoneref2.py).
-/
import Derived.Test.YtnjekhnheihooaaZoneRef
namespace Go.Proofs.Ytnjekhnheihooaa
open Go.RowKit Go.Wag
set_option linter.unusedVariables false

theorem own_ne_blk {base B k : Nat} {w : World} {st rs la : Int} {A : Option Addr} {n c : Nat} {l : List UInt8} (h : ZVar base B w k st rs la A n c l) : ∀ b, (Value.slice A n c).ownBlock = some b → b ≠ k := fun b hb e => by
  cases A with
  | none => cases hb
  | some ad => exact Nat.ne_of_lt (h.apart ad rfl).2 ((Option.some.inj hb).trans e)
theorem own_ge {base B k B' : Nat} {w : World} {st rs la : Int} {A : Option Addr} {n c : Nat} {l : List UInt8} (h : ZVar base B w k st rs la A n c l) (hB : B' ≤ B) : ∀ b, (Value.slice A n c).ownBlock = some b → B' ≤ b := fun b hb => by
  cases A with
  | none => cases hb
  | some ad =>
    have h1 := (h.apart ad rfl).1
    have h2 : ad.block = b := Option.some.inj hb
    omega
theorem own_ne_low {base B k j : Nat} {w : World} {st rs la : Int} {A : Option Addr} {n c : Nat} {l : List UInt8} (h : ZVar base B w k st rs la A n c l) (hj : j < B) : ∀ b, (Value.slice A n c).ownBlock = some b → b ≠ j := fun b hb e => by
  have := own_ge h (Nat.le_refl _) b hb
  omega
theorem own_ne_step' {base base' B k m : Nat} {w w' : World} {st rs la : Int} {A A' : Option Addr} {n c c' : Nat} {l : List UInt8} {ys : List Value} {e : TypeId} (hO : Own base' e w w' (.slice A n c) (.slice A' m c') m ys) (h : ZVar base B w k st rs la A n c l) : ∀ ad, A' = some ad → ad.block ≠ k := fun ad hA => by
  subst hA
  exact own_ne_step hO (own_ne_blk h) h.blk.lt ad.block rfl

theorem own_cut {w : World} {base : Nat} {e : TypeId} {A : Option Addr} {n c k : Nat} {xs : List Value} (h : w.ownsRow base e 1 (.slice A n c) n xs) (hk : k ≤ n) : w.ownsRow base e 1 (.slice A k c) k (xs.take k) := by
  obtain ⟨hl, hn | ⟨g, cap, cur, hv, hb, hg, hnc, hm, hs, ht⟩⟩ := h
  · obtain ⟨hv, h0⟩ := hn
    obtain ⟨rfl, -, rfl⟩ : A = none ∧ n = 0 ∧ c = 0 := by simpa using hv
    obtain rfl : k = 0 := by omega
    exact ⟨by simp, .inl ⟨rfl, rfl⟩⟩
  · obtain ⟨rfl, rfl⟩ : A = some ⟨g, 0, none⟩ ∧ c = cap := by simpa using hv
    refine ⟨?_, .inr ⟨g, c, cur, rfl, hb, hg, by omega, hm, hs, ?_⟩⟩
    · rw [List.length_take, hl]
      omega
    · rw [← ht, List.take_take]
      congr 1
      omega
theorem cr_size {st rs n la size keep : Int} (hc : chkF st rs n la size = true) (h0 : ¬ crK n la keep = 0) (hs : crK n la keep = size) : st = 3 := by
  have h := chk_all hc
  unfold crK at h0 hs
  omega

end Go.Proofs.Ytnjekhnheihooaa
