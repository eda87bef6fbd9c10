/-
  Contracts of the document's Pack and Unpack, and of Same.
-/
import Derived.Test.YtagageidiebogaaLePack
import Derived.Deep.RegionHeld3
import Derived.Deep.DrawnRows
namespace Go.Proofs.Ytagageidiebogaa
open Go.RowKit Go.Wag
set_option linter.unusedVariables false
set_option maxRecDepth 20000
attribute [local go_sem ↓] Go.wp_at_zero Go.wp_at_succ

def BytesOk (w : World) (r : List UInt8) (e : Ending) (w' : World) : Prop := ∃ A n c, e = .returned (.tuple #[.slice A n c, .int .i64 0]) ∧ Sl w' A n c (r.map v8) ∧ Nw 5 w w' A n c (r.map v8) ∧ Below w.heap.size w w'
def BytesNo (w : World) (no : Int) (e : Ending) (w' : World) : Prop := ∃ A n c, e = .returned (.tuple #[.slice A n c, .int .i64 no]) ∧ Sl w' A n c (([] : List UInt8).map v8) ∧ Nw 5 w w' A n c (([] : List UInt8).map v8) ∧ Below w.heap.size w w'
theorem BytesErr.ok {P : Program} {f : FuncId} {args : Array Value} {w : World} {r : Option (List UInt8)} {no : Int} {l : List UInt8} (h : Calls P f args w (BytesErr w r no)) (hr : r = some l) : Calls P f args w (BytesOk w l) := by
  subst hr
  exact h.mono fun e w' ⟨A, n, c, he, hs, hf, hb⟩ => ⟨A, n, c, he, hs, hf, hb⟩
theorem BytesErr.no {P : Program} {f : FuncId} {args : Array Value} {w : World} {r : Option (List UInt8)} {no : Int} (h : Calls P f args w (BytesErr w r no)) (hr : r = none) : Calls P f args w (BytesNo w no) := by
  subst hr
  exact h.mono fun e w' ⟨A, n, c, he, hs, hf, hb⟩ => ⟨A, n, c, he, hs, hf, hb⟩
def NumOk (w : World) (x : Nat) (r : List UInt8) (e : Ending) (w' : World) : Prop := ∃ A n c, e = .returned (.tuple #[.int .u64 (x : Int), .slice A n c, .int .i64 0]) ∧ Sl w' A n c (r.map v8) ∧ Nw 5 w w' A n c (r.map v8) ∧ Below w.heap.size w w'
def NumNo (w : World) (no : Int) (e : Ending) (w' : World) : Prop := ∃ A n c, e = .returned (.tuple #[.int .u64 0, .slice A n c, .int .i64 no]) ∧ Sl w' A n c (([] : List UInt8).map v8) ∧ Nw 5 w w' A n c (([] : List UInt8).map v8) ∧ Below w.heap.size w w'
theorem NumErr.ok {P : Program} {f : FuncId} {args : Array Value} {w : World} {r : Option (Nat × List UInt8)} {no : Int} {x : Nat} {l : List UInt8} (h : Calls P f args w (NumErr w r no)) (hr : r = some (x, l)) : Calls P f args w (NumOk w x l) := by
  subst hr
  exact h.mono fun e w' ⟨A, n, c, he, hs, hf, hb⟩ => ⟨A, n, c, he, hs, hf, hb⟩
theorem NumErr.no {P : Program} {f : FuncId} {args : Array Value} {w : World} {r : Option (Nat × List UInt8)} {no : Int} (h : Calls P f args w (NumErr w r no)) (hr : r = none) : Calls P f args w (NumNo w no) := by
  subst hr
  exact h.mono fun e w' ⟨A, n, c, he, hs, hf, hb⟩ => ⟨A, n, c, he, hs, hf, hb⟩
theorem putF_ltr {bs : List UInt8} {c : UInt8} {x : UInt64} (hc : ltr c.toNat ≠ 0) (hf : fitsB x.toNat (ltr c.toNat) = true) : putF bs ((x.toNat : Int)).toNat (ltr c.toNat : Int) = some (bs ++ leb (ltr c.toNat) x.toNat) := by
  rw [putF_yes (ltr_isSz hc) (by simpa using hf)]
  simp
theorem putF_ltr_no {bs : List UInt8} {c : UInt8} {x : UInt64} (h : ltr c.toNat = 0 ∨ fitsB x.toNat (ltr c.toNat) = false) : putF bs ((x.toNat : Int)).toNat (ltr c.toNat : Int) = none := by
  rcases h with h | h
  · rw [h]; exact putF_no (.inl rfl)
  · exact putF_no (.inr (by simpa using h))

/-- The loop of the document's Pack. -/
def RefPackRel (l : List UInt8) (ns : List UInt64) (w : World) (x : Value) (wr : World) (pos : Nat) : Prop :=
  ∃ A m c bs, x = .slice A m c ∧ Sl wr A m c (bs.map v8) ∧ packF (l.take pos) (ns.take pos) = some bs ∧ m ≤ 8 * pos ∧ Nw 5 w wr A m c (bs.map v8) ∧ Below w.heap.size w wr

theorem takeF_ltr {b : List UInt8} {c : UInt8} (hc : ltr c.toNat ≠ 0) (hl : ltr c.toNat ≤ b.length) : takeF b (ltr c.toNat : Int) = some (lev (b.take (ltr c.toNat)), b.drop (ltr c.toNat)) := by
  rw [takeF_yes (ltr_isSz hc) (by simpa using hl)]
  simp
theorem takeF_ltr_no {b : List UInt8} {c : UInt8} (h : ltr c.toNat = 0 ∨ b.length < ltr c.toNat) : takeF b (ltr c.toNat : Int) = none := by
  rcases h with h | h
  · rw [h]; exact takeF_no (.inl rfl)
  · exact takeF_no (.inr (by simp; omega))

theorem drop_cons {l : List UInt8} {k : Nat} (hk : k < l.length) : l.drop k = l[k] :: l.drop (k + 1) := List.drop_eq_getElem_cons hk

/-- Lists of numbers held against each other: the world is as it was, but for draws. -/
def SamePost (w : World) (r : Bool) (e : Ending) (w' : World) : Prop := e = .returned (.bool r) ∧ ∃ q, w' = w.drewN q

theorem same_no {xs ys : List UInt64} {k : Nat} (h1 : k < xs.length) (h2 : k < ys.length) (h : xs[k].toNat ≠ ys[k].toNat) : decide (xs = ys) = false := by
  simp only [decide_eq_false_iff_not]
  rintro rfl
  exact h rfl

end Go.Proofs.Ytagageidiebogaa
