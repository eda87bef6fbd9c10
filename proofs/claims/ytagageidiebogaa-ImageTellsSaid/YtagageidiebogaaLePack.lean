/-
  Contracts of a form's bytes, Pack and Unpack of package le.
-/
import Derived.Test.YtagageidiebogaaLePut
import Derived.Test.YtagageidiebogaaLeMath2
namespace Go.Proofs.Ytagageidiebogaa
open Go.RowKit Go.Wag
set_option linter.unusedVariables false
set_option maxRecDepth 20000

/-- A form's bytes in all, and whether it is one; nothing old has turned. -/
def FormPost (w : World) (l : List UInt8) (e : Ending) (w' : World) : Prop :=
  e = .returned (.tuple #[.int .i64 (((fsum l).getD 0 : Nat) : Int), .bool (fsum l).isSome]) ∧ Below w.heap.size w w'

theorem iter_below (w : World) (s : ByteArray) (p : Nat) : Below w.heap.size w (w.iter s p) := (Below.refl _ _).alloc (Nat.le_refl _) _

/-- The loop of Pack: out reads as the numbers so far, and the iterator stands at pos. -/
def PackRel (l : List UInt8) (ns : List UInt64) (g t : Nat) (W0 : World) (s : ByteArray) (x : Value) (wr : World) (pos : Nat) : Prop :=
  ∃ A m c bs, x = .slice A m c ∧ Own g 5 W0 wr (.slice (some ⟨g, 0, none⟩) 0 t) (.slice A m c) m (bs.map v8) ∧ packF (l.take pos) (ns.take pos) = some bs ∧ m ≤ 8 * pos ∧ wr.heap[g + 1]? = some (.stringIter s pos)

theorem fsum_take_le {l : List UInt8} {t a k : Nat} (h : fsum l = some t) (ha : fsum (l.take k) = some a) : a ≤ t := by
  have e := fsum_append (l.take k) (l.drop k)
  rw [List.take_append_drop, h, ha] at e
  cases hd : fsum (l.drop k) with
  | none => rw [hd] at e; simp at e
  | some u => rw [hd] at e; simp at e; omega

end Go.Proofs.Ytagageidiebogaa
