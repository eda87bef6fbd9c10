/-
  The calls at every statement's head answer as the document says.
-/
import Derived.Test.YtagageidiebogaaLeRef
namespace Go.Proofs.Ytagageidiebogaa
open Go.RowKit Go.Wag
set_option linter.unusedVariables false
set_option maxRecDepth 20000

theorem drewN_below {B : Nat} {a w : World} (h : Below B a w) (n : Nat) : Below B a (w.drewN n) := ⟨h.os, h.tape, h.output, h.size, h.block⟩
theorem SamePost.below {w w' : World} {r : Bool} {e : Ending} (h : SamePost w r e w') : e = .returned (.bool r) ∧ Below w.heap.size w w' := by
  obtain ⟨he, q, rfl⟩ := h
  exact ⟨he, drewN_below (Below.refl _ _) q⟩
theorem un9 : Try.prog.underlying 9 = some .string := by kernel_rfl
/-- 'string(b)' at this program's types. -/
theorem str_of {w : World} {A : Option Addr} {n c : Nat} {l : List UInt8} (h : Sl w A n c (l.map v8)) : (convert 37 9 (.slice A n c)).run Try.prog w = .ok (.string ⟨l.toArray⟩) w :=
  h.run_string 37 9 5 Try.underlying37 Try.underlying5 un9
theorem sl8 (w : World) (l : List UInt8) (hl : l.length ≤ 1000) : Sl (w.alloc (.cells (l.map v8).toArray 5)) (some ⟨w.heap.size, 0, none⟩) l.length l.length (l.map v8) := by
  have := Sl.new w (l.map v8) 5 (by simp; omega)
  simpa using this
theorem sl8_at (w : World) (l : List UInt8) (H : Nat) (hH : w.heap.size = H) (hl : l.length ≤ 1000) : Sl (w.alloc (.cells (l.map v8).toArray 5)) (some ⟨H, 0, none⟩) l.length l.length (l.map v8) := by
  subst hH; exact sl8 w l hl
def AwakePost (w : World) (e : Ending) (w' : World) : Prop := e = .returned (.bool true) ∧ Below w.heap.size w w'

end Go.Proofs.Ytagageidiebogaa
