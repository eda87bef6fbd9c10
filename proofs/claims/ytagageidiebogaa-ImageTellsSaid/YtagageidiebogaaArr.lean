/-
  Arrays that lie in a block of their own: made, stored and loaded whole, without the walk writing out their cells. No program is named here.
-/
import Derived.Test.YtagageidiebogaaWords
import Derived.Laws.Rows
import Derived.Laws.Tables
namespace Go.Wag
open Go.RowKit

section
variable {P : Program} {ops : Array Oper} {rest : List Oper} {o : Oper} {a : Act} {w : World} {Q : Exit → Act → World → Prop}
/-- 'T{}': the zero array. -/
theorem wpList_zero (hgd : o.guard = none) (T : TypeId) (ho : o.op = .build T #[]) (v : Value) (hz : ∀ W, (Instr.build T #[]).run P W = .ok v W) (h : wpList P ops Q rest (a.put o.dst v) w) : wpList P ops Q (o :: rest) a w := by
  refine wpList_plain hgd fun K hK => ?_
  have hz' := hz w
  unfold Oper.wp execOp
  simp only [ho, Sem.run_bind, Sem.run_pure, Result.andThen_ok, List.map_toArray, List.map_nil, hz']
  exact hK _ _ h
/-- A new block for a variable of type T. -/
theorem wpList_new (hgd : o.guard = none) (T : TypeId) (ho : o.op = .alloc T) (cs : Array Value) (t : TypeId) (hz : ∀ W : World, (Instr.alloc T true (.tuple #[])).run P W = .ok (.pointer (some ⟨W.heap.size, 0, none⟩)) (W.alloc (.cells cs t))) (h : wpList P ops Q rest (a.put o.dst (.pointer (some ⟨w.heap.size, 0, none⟩))) (w.alloc (.cells cs t))) : wpList P ops Q (o :: rest) a w := by
  refine wpList_plain hgd fun K hK => ?_
  have hz' := hz w
  unfold Oper.wp execOp
  simp only [ho, Sem.run_bind, Sem.run_pure, Result.andThen_ok, hz']
  exact hK _ _ h
end

theorem setRow_size (w : World) (g : Nat) (cs : Array Value) : (w.setRow g cs).heap.size = w.heap.size := by simp [World.setRow]
theorem below_setRow {B : Nat} {a w : World} (h : Below B a w) {g : Nat} (hg : B ≤ g) (cs : Array Value) : Below B a (w.setRow g cs) :=
  h.trans ⟨rfl, rfl, rfl, Nat.le_of_eq (setRow_size w g cs).symm, fun k hk => setRow_other w g k cs (by omega)⟩
end Go.Wag
