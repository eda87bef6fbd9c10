/-
  Contracts of Put and Take, of package le and of the document's answer.
-/
import Derived.Test.YtagageidiebogaaLeSmall
import Derived.Deep.QuietTactic
import Derived.BigQuiet
namespace Go.Proofs.Ytagageidiebogaa
open Go.RowKit Go.Wag
set_option linter.unusedVariables false
set_option maxRecDepth 20000

/-- Bytes or none, and an error's number beside them; nothing old has turned. -/
def BytesErr (w : World) (r : Option (List UInt8)) (no : Int) (e : Ending) (w' : World) : Prop :=
  ∃ A n c, e = .returned (.tuple #[.slice A n c, .int .i64 (errOf r no)]) ∧ Sl w' A n c ((r.getD []).map v8) ∧ Nw 5 w w' A n c ((r.getD []).map v8) ∧ Below w.heap.size w w'

theorem putF_no {l : List UInt8} {n : Nat} {s : Int} (h : isSz s = false ∨ fitsB n s.toNat = false) : putF l n s = none := by
  unfold putF
  rcases h with h | h <;> simp [h]
theorem putF_yes {l : List UInt8} {n : Nat} {s : Int} (h : isSz s = true) (h' : fitsB n s.toNat = true) : putF l n s = some (l ++ leb s.toNat n) := by simp [putF, h, h']
theorem sz_range {s : Int} (h : isSz s = true) : 1 ≤ s ∧ s ≤ 8 := by rcases isSz_cases h with rfl | rfl | rfl | rfl <;> omega

/-- A number, bytes, and an error's number; nothing old has turned. -/
def NumErr (w : World) (r : Option (Nat × List UInt8)) (no : Int) (e : Ending) (w' : World) : Prop :=
  ∃ A n c, e = .returned (.tuple #[.int .u64 (((r.map (·.1)).getD 0 : Nat) : Int), .slice A n c, .int .i64 (errOf r no)]) ∧ Sl w' A n c (((r.map (·.2)).getD []).map v8) ∧ Nw 5 w w' A n c (((r.map (·.2)).getD []).map v8) ∧ Below w.heap.size w w'

theorem takeF_no {l : List UInt8} {s : Int} (h : isSz s = false ∨ ¬ s.toNat ≤ l.length) : takeF l s = none := by
  unfold takeF
  rcases h with h | h <;> simp [h]
theorem takeF_yes {l : List UInt8} {s : Int} (h : isSz s = true) (h' : s.toNat ≤ l.length) : takeF l s = some (lev (l.take s.toNat), l.drop s.toNat) := by simp [takeF, h, h']

end Go.Proofs.Ytagageidiebogaa
