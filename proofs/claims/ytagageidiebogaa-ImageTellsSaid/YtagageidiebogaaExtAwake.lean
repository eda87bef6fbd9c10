/-
  The calls at every statement's head of stage 7 answer as the document says (written by gen_extawake.py).
-/
import Derived.Test.YtagageidiebogaaExB
import Derived.Test.YtagageidiebogaaRef7c
namespace Go.Proofs.Ytagageidiebogaa
open Go.RowKit Go.Wag
set_option linter.unusedVariables false
set_option maxRecDepth 20000
set_option linter.unusedSimpArgs false
/-- An extent in memory of its own, its numbers named, and a value beside it. -/
def EQ (u : Value) (w : World) (y : Xp) (e : Ending) (w' : World) : Prop :=
  ∃ A m c, Hid (m = y.l.length) ∧ e = .returned (.tuple #[.agg #[.int .i64 y.la, .int .i64 y.n, .int .i64 y.k, .int .i64 y.g, .slice A m c], u]) ∧ Nw 5 w w' A m c (y.l.map v8) ∧ Below w.heap.size w w'
theorem EPost.eq {P : Program} {f : FuncId} {args : Array Value} {u u' : Value} {w : World} {y y' : Xp} (h : Calls P f args w (EPost u w y)) (hu : u = u') (hy : y = y') : Calls P f args w (EQ u' w y') := by
  subst hu hy
  exact h.mono fun e w' ⟨A, c, he, hN, hb⟩ => ⟨A, y.l.length, c, rfl, he, hN, hb⟩
theorem eJoin_ok (la1 n1 k1 g1 : Int) (A1 : Option Addr) (m1 c1 : Nat) (l1 : List UInt8) (la2 n2 k2 g2 : Int) (A2 : Option Addr) (m2 c2 : Nat) (l2 : List UInt8) (w : World) (hla1 : la1 ≤ 9223372036854775807) (hla2 : la2 ≤ 9223372036854775807) (h1 : Sl w A1 m1 c1 (l1.map v8)) (h2 : Sl w A2 m2 c2 (l2.map v8)) {y : Xp} (hr : xjoin ⟨la1, n1, k1, g1, l1⟩ ⟨la2, n2, k2, g2, l2⟩ = some y) : Calls Try.prog 26 #[.agg #[.int .i64 la1, .int .i64 n1, .int .i64 k1, .int .i64 g1, .slice A1 m1 c1], .agg #[.int .i64 la2, .int .i64 n2, .int .i64 k2, .int .i64 g2, .slice A2 m2 c2]] w (EQ (.int .i64 0) w y) := EPost.eq (eJoin_any la1 n1 k1 g1 A1 m1 c1 l1 la2 n2 k2 g2 A2 m2 c2 l2 w hla1 hla2 h1 h2) (by rw [hr]; rfl) (by rw [hr]; rfl)
theorem eJoin_no (la1 n1 k1 g1 : Int) (A1 : Option Addr) (m1 c1 : Nat) (l1 : List UInt8) (la2 n2 k2 g2 : Int) (A2 : Option Addr) (m2 c2 : Nat) (l2 : List UInt8) (w : World) (hla1 : la1 ≤ 9223372036854775807) (hla2 : la2 ≤ 9223372036854775807) (h1 : Sl w A1 m1 c1 (l1.map v8)) (h2 : Sl w A2 m2 c2 (l2.map v8)) (hr : xjoin ⟨la1, n1, k1, g1, l1⟩ ⟨la2, n2, k2, g2, l2⟩ = none) : Calls Try.prog 26 #[.agg #[.int .i64 la1, .int .i64 n1, .int .i64 k1, .int .i64 g1, .slice A1 m1 c1], .agg #[.int .i64 la2, .int .i64 n2, .int .i64 k2, .int .i64 g2, .slice A2 m2 c2]] w (EQ (.int .i64 70) w x0) := EPost.eq (eJoin_any la1 n1 k1 g1 A1 m1 c1 l1 la2 n2 k2 g2 A2 m2 c2 l2 w hla1 hla2 h1 h2) (by rw [hr]; rfl) (by rw [hr]; rfl)
theorem fSame_eq (la1 n1 k1 g1 : Int) (A1 : Option Addr) (m1 c1 : Nat) (l1 : List UInt8) (la2 n2 k2 g2 : Int) (A2 : Option Addr) (m2 c2 : Nat) (l2 : List UInt8) (w : World) (h1 : Sl w A1 m1 c1 (l1.map v8)) (h2 : Sl w A2 m2 c2 (l2.map v8)) (he : (⟨la1, n1, k1, g1, l1⟩ : Xp) = ⟨la2, n2, k2, g2, l2⟩) : Calls Try.prog 28 #[.agg #[.int .i64 la1, .int .i64 n1, .int .i64 k1, .int .i64 g1, .slice A1 m1 c1], .agg #[.int .i64 la2, .int .i64 n2, .int .i64 k2, .int .i64 g2, .slice A2 m2 c2]] w fun e w' => e = .returned (.bool true) ∧ Below w.heap.size w w' := by
  have := fSame_any la1 n1 k1 g1 A1 m1 c1 l1 la2 n2 k2 g2 A2 m2 c2 l2 w h1 h2
  rw [he, xsame_self] at this
  exact this
/-- What the document writes. -/
def ax : Xp := ⟨3, 5, 1, 2, []⟩
theorem aw_cut : xcut ⟨3, 5, 1, 2, []⟩ 5 9 = some ⟨5, 3, 1, 2, []⟩ := by rfl
theorem aw_cutno : xcut ⟨3, 5, 1, 2, []⟩ 8 9 = none := by rfl
theorem aw_join : xjoin ⟨3, 2, 1, 2, []⟩ ⟨5, 3, 1, 2, []⟩ = some ⟨3, 5, 1, 2, []⟩ := by rfl
theorem aw_joinno : xjoin ⟨3, 5, 1, 2, []⟩ ⟨5, 3, 1, 2, []⟩ = none := by rfl
theorem aw_wr : xwr [⟨3, 5, 1, 2, []⟩] = some [1, 3, 5, 1, 2, 0, 0, 0] := by rfl
theorem aw_rd : xrd [1, 3, 5, 1, 2, 0, 0, 0] = some [⟨3, 5, 1, 2, []⟩] := xrd_wr aw_wr
theorem aw_none : xrd [] = none := rfl
theorem aw_ck : xchk 3 5 1 2 0 = true := by decide
theorem aw_ck0 : xchk 0 0 0 0 0 = false := by decide
theorem aw_by : (xbytes ⟨3, 5, 1, 2, []⟩).length = 160 := by decide

end Go.Proofs.Ytagageidiebogaa
