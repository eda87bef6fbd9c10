/-
  Words for blocks that a walk has laid itself (variables that live in memory): 'Blk w k vs t': block k holds the cells vs. No program is named here.
-/
import Derived.Test.YtagageidiebogaaWords
import Derived.Laws.Rows
import Derived.Laws.ResultCell
namespace Go.Wag
open Go.RowKit

/-- Block k holds the cells vs, and none of them is frozen. -/
def Blk (w : World) (k : Nat) (vs : Array Value) (t : TypeId) : Prop := w.heap[k]? = some (.cells vs t)

variable {w w' : World} {k : Nat} {vs : Array Value} {t : TypeId}
theorem Blk.lt (h : Blk w k vs t) : k < w.heap.size := (Array.getElem?_eq_some_iff.1 h).1
theorem Blk.cell (h : Blk w k vs t) (i : Nat) : w.cell? ⟨k, i, none⟩ = vs[i]? := by
  unfold World.cell?
  rw [show w.heap[k]? = _ from h]
  rfl
theorem Blk.frozen (h : Blk w k vs t) (i : Nat) : w.frozen? ⟨k, i, none⟩ = false := by
  unfold World.frozen?
  rw [show w.heap[k]? = _ from h]
  simp
theorem Blk.same (h : Blk w k vs t) (hb : w'.heap[k]? = w.heap[k]?) : Blk w' k vs t := hb.trans h
theorem Blk.below {B : Nat} (h : Blk w k vs t) (hb : Below B w w') (hB : k < B) : Blk w' k vs t := h.same (hb.block k hB)
theorem Blk.under (h : Blk w k vs t) (hb : Below w.heap.size w w') : Blk w' k vs t := h.below hb h.lt
theorem Blk.alloc (h : Blk w k vs t) (o : Obj) : Blk (w.alloc o) k vs t := h.same (Below.heap_alloc _ _ _ h.lt)
theorem Blk.drew (h : Blk w k vs t) : Blk w.drew k vs t := h
theorem Blk.new (w : World) (vs : Array Value) (t : TypeId) : Blk (w.alloc (.cells vs t)) w.heap.size vs t := by
  show (w.heap.push _)[_]? = _
  simp
theorem Blk.far (h : Blk w k vs t) {a : Addr} (hk : k ≠ a.block) (u : Value) : Blk (w.setCell a u) k vs t := h.same (Below.heap_setCell _ _ _ _ hk)
theorem Blk.set (h : Blk w k vs t) (i : Nat) (u : Value) : Blk (w.setCell ⟨k, i, none⟩ u) k (vs.setIfInBounds i u) t := by
  unfold Blk World.setCell
  simp only [Array.getElem?_modify]
  rw [if_pos trivial, show w.heap[k]? = _ from h]
  rfl
theorem Blk.own {base : Nat} {e : TypeId} {v v' : Value} {m : Nat} {ys : List Value} (h : Blk w k vs t) (hg : Own base e w w' v v' m ys) (hv : ∀ b, v.ownBlock = some b → b ≠ k) : Blk w' k vs t :=
  h.same (hg.grown.block k h.lt (fun e => hv k e.symm rfl))
theorem Blk.ownAt {base : Nat} {e : TypeId} {v' : Value} {m g n c : Nat} {ys : List Value} (h : Blk w k vs t) (hg : Own base e w w' (.slice (some ⟨g, 0, none⟩) n c) v' m ys) (hne : g ≠ k) : Blk w' k vs t :=
  h.own hg (fun b hb => by
    have hb' : some g = some b := hb
    cases hb'
    exact hne)
theorem Own.belowAt {base : Nat} {e : TypeId} {W w0 w : World} {v : Value} {B g n c m : Nat} {xs : List Value} (h : Own base e w0 w (.slice (some ⟨g, 0, none⟩) n c) v m xs) (hb : Below B W w0) (hB : B ≤ w0.heap.size) (hg : B ≤ g) : Below B W w :=
  h.below hb hB (fun k hk => by
    have hk' : some g = some k := hk
    cases hk'
    exact hg)
/-- A store turns one block. -/
theorem grown_set (w : World) (a : Addr) (u : Value) : w.grownBy (w.setCell a u) (some a.block) :=
  ⟨rfl, rfl, rfl, by simp [World.setCell], fun i _ hne => Below.heap_setCell _ _ _ _ (fun h => hne (by rw [h]))⟩
theorem Nw.far {e : TypeId} {w w' : World} {A : Option Addr} {n c : Nat} {xs : List Value} (h : Nw e w w' A n c xs) {a : Addr} (ha : ∀ ad, A = some ad → ad.block ≠ a.block) (u : Value) : Nw e w (w'.setCell a u) A n c xs := by
  refine World.ownsRow.kept h (grown_set w' a u) ?_
  cases A with
  | none => exact .inl rfl
  | some ad => exact .inr (fun hh => ha ad rfl (Option.some.inj hh))
theorem Sl.far {w' : World} {A : Option Addr} {n c : Nat} {xs : List Value} (h : Sl w' A n c xs) {a : Addr} (ha : ∀ ad, A = some ad → ad.block ≠ a.block) (u : Value) : Sl (w'.setCell a u) A n c xs :=
  h.grown (grown_set w' a u) fun ad hA hh => ha ad hA (Option.some.inj hh)
/-- What the walk asks of a block of one, two, three, four cells. -/
theorem Blk.one {v0 : Value} (h : Blk w k #[v0] t) : w.cell? ⟨k, 0, none⟩ = some v0 ∧ w.frozen? ⟨k, 0, none⟩ = false := ⟨h.cell 0, h.frozen 0⟩
theorem Blk.three {v0 v1 v2 : Value} (h : Blk w k #[v0, v1, v2] t) : w.cell? ⟨k, 0, none⟩ = some v0 ∧ w.cell? ⟨k, 1, none⟩ = some v1 ∧ w.cell? ⟨k, 2, none⟩ = some v2 ∧ w.frozen? ⟨k, 0, none⟩ = false ∧ w.frozen? ⟨k, 1, none⟩ = false ∧ w.frozen? ⟨k, 2, none⟩ = false :=
  ⟨h.cell 0, h.cell 1, h.cell 2, h.frozen 0, h.frozen 1, h.frozen 2⟩
theorem Blk.four {v0 v1 v2 v3 : Value} (h : Blk w k #[v0, v1, v2, v3] t) : w.cell? ⟨k, 0, none⟩ = some v0 ∧ w.cell? ⟨k, 1, none⟩ = some v1 ∧ w.cell? ⟨k, 2, none⟩ = some v2 ∧ w.cell? ⟨k, 3, none⟩ = some v3 ∧
    w.frozen? ⟨k, 0, none⟩ = false ∧ w.frozen? ⟨k, 1, none⟩ = false ∧ w.frozen? ⟨k, 2, none⟩ = false ∧ w.frozen? ⟨k, 3, none⟩ = false :=
  ⟨h.cell 0, h.cell 1, h.cell 2, h.cell 3, h.frozen 0, h.frozen 1, h.frozen 2, h.frozen 3⟩

/-- Leaving with a result that lives in a block (a struct), and with one beside it. -/
theorem ret_blk {P : Program} {fn : Func} {R : Ending → World → Prop} {tmps : Array Value} {p : Tmp} {ty t : TypeId} {g : Nat} {cs : Array Value} {fs : Array Field} (hr : fn.results = #[.cell p ty]) (hp : tmps.getD p undef = .pointer (some ⟨g, 0, none⟩))
    (hg : Blk w g cs t) (hu : P.underlying ty = some (.struct fs)) (hi : (P.info? ty).map (·.size) = some cs.size) (hR : R (.returned (.agg cs)) w) : bodyPost P fn R .ret ⟨tmps, []⟩ w :=
  bodyPost_ret (results_cell_row hr tmps w g t cs (0, 0) (.struct fs) hp hg hu rfl hi) rfl hR
theorem ret_blk2 {P : Program} {fn : Func} {R : Ending → World → Prop} {tmps : Array Value} {p u : Tmp} {ty t : TypeId} {g : Nat} {cs : Array Value} {fs : Array Field} {v : Value} (hr : fn.results = #[.cell p ty, .tmp u]) (hp : tmps.getD p undef = .pointer (some ⟨g, 0, none⟩))
    (hg : Blk w g cs t) (hu : P.underlying ty = some (.struct fs)) (hi : (P.info? ty).map (·.size) = some cs.size) (hv : tmps.getD u undef = v) (hR : R (.returned (.tuple #[.agg cs, v])) w) : bodyPost P fn R .ret ⟨tmps, []⟩ w := by
  refine bodyPost_ret ?_ rfl hR
  rw [results_cell_tmp hr, hp, hv]
  simp [asAddr, run_loadVar_row w g t ty cs (0, 0) (.struct fs) hg hu rfl hi, Result.andThen]
end Go.Wag
