/-
  A range over what joined hands back: the law for the caller.
-/
import Derived.Test.YtagageidiebogaaEm5
import Derived.RangeFuncFrom
namespace Go.Wag
open Go.RowKit
set_option linter.unusedVariables false
theorem cell_turn {W : World} {l : Nat} {o o' : Obj} (h : W.heap[l]? = some o) (ho : o.isCells = false) (ho' : o'.isCells = false) (p : Addr) : (W.putObj l o').cell? p = W.cell? p := by
  by_cases e : p.block = l
  · have h1 : (W.putObj l o').heap[p.block]? = some o' := by rw [e]; exact World.putObj_heap_same (Array.getElem?_eq_some_iff.1 h).1
    have h2 : W.heap[p.block]? = some o := by rw [e]; exact h
    unfold World.cell?
    rw [h1, h2]
    cases o with
    | cells => simp [Obj.isCells] at ho
    | _ => cases o' with
      | cells => simp [Obj.isCells] at ho'
      | _ => rfl
  · unfold World.cell?
    rw [World.putObj_heap_other e]
theorem Blk.turn {W : World} {l k : Nat} {o : Obj} {vs : Array Value} {t : TypeId} (B : Blk W k vs t) (h : W.heap[l]? = some o) (ho : o.isCells = false) (o' : Obj) : Blk (W.putObj l o') k vs t := by
  refine (World.putObj_heap_other (fun e => ?_)).trans B
  subst e
  have B' : W.heap[k]? = some (.cells vs t) := B
  rw [B'] at h
  cases h
  simp [Obj.isCells] at ho
theorem Rs.turn {α : Type} {E : Elt α} {F : Nat → Prop} {W : World} {A : Option Addr} {n c : Nat} {xs : List α} (R : Rs E F W A n c xs) {l : Nat} {o o' : Obj} (h : W.heap[l]? = some o) (ho : o.isCells = false) (ho' : o'.isCells = false) : Rs E F (W.putObj l o') A n c xs :=
  R.keep (by simp) fun p _ _ => cell_turn h ho ho' p
theorem Rq.turn {α : Type} {E : Elt α} {F : Nat → Prop} {B : Nat} {t : TypeId} {W : World} {A : Option Addr} {n c : Nat} {xs : List α} (R : Rq E F B t W A n c xs) {l : Nat} {o o' : Obj} (h : W.heap[l]? = some o) (ho : o.isCells = false) (ho' : o'.isCells = false) : Rq E F B t (W.putObj l o') A n c xs := by
  obtain ⟨cs, hx, hz⟩ := R.row
  refine ⟨R.len, cs, hx.kept (grownBy_putObj' W l o') ?_, fun i x hi => ?_⟩
  · cases hv : Value.ownBlock (.slice A n c) with
    | none => exact .inl rfl
    | some b =>
      refine .inr (fun e => ?_)
      obtain rfl : b = l := Option.some.inj e
      rcases hx.2 with ⟨hv2, _⟩ | ⟨g, cap, cur, hv2, _, hg, _⟩
      · rw [hv2] at hv
        cases hv
      · rw [hv2] at hv
        obtain rfl : g = b := Option.some.inj hv
        rw [hg] at h
        cases h
        simp [Obj.isCells] at ho
  · obtain ⟨vs, hr, hv⟩ := hz i x hi
    exact ⟨vs, E.keep hr (by simp) (fun p _ _ => cell_turn h ho ho' p), hv⟩
theorem below_turn {B : Nat} {w W : World} {l : Nat} (b : Below B w W) (hB : B ≤ W.heap.size) (hl : B ≤ l) (o' : Obj) : Below B w (W.putObj l o') :=
  b.grown (grownBy_putObj' W l o') hB (fun k e => by cases e; exact hl)
end Go.Wag
namespace Go.Proofs.Ytagageidiebogaa
open Go.RowKit Go.Wag
set_option linter.unusedVariables false
set_option linter.unusedSimpArgs false
set_option maxRecDepth 20000
end Go.Proofs.Ytagageidiebogaa
