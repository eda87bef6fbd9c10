/-
  Merged: XIm0 XImMath XIm1 XIm2 XIm3 XIm4 XIm5.
-/
import Derived.Test.YtagageidiebogaaStrs2
import Derived.Test.YtagageidiebogaaArr
import Derived.Test.YtagageidiebogaaEmAwake
import Derived.Test.YtagageidiebogaaJoin
import Derived.DeepKeys
import Derived.Laws.StructEq
import Derived.Laws.CopyRow
import Derived.Laws.IdiomCopy
import Derived.Deep.WholeRow
import Derived.BigFrame
import Derived.Test.YtagageidiebogaaEmMath2
import Derived.Deep.Cut
import Derived.Test.YtagageidiebogaaEm8
import Derived.Deep.LoopGhost
import Derived.Laws.Cover3
/-
  Blocks of an image in memory: structs of thirty-four cells, loaded and stored whole. No function is named here.
-/
namespace Go.Wag
open Go.RowKit
set_option linter.unusedVariables false
set_option maxRecDepth 20000
/-- A block. -/
structure Cp where
  k : Int
  g : Int
  d : List UInt8
def z32 : List UInt8 := List.replicate 32 0
def c0p : Cp := ⟨0, 0, z32⟩
structure Cp.wf (x : Cp) : Prop where
  len : x.d.length = 32
  k : (Lit.int .i64 x.k).wf = true
  g : (Lit.int .i64 x.g).wf = true
/-- Its cells. -/
def cpV (x : Cp) : List Value := .int .i64 x.k :: .int .i64 x.g :: x.d.map v8
def cpA (x : Cp) : Array Value := (cpV x).toArray
def dA (d : List UInt8) : Array Value := (d.map v8).toArray
theorem cpV_len {x : Cp} (h : x.d.length = 32) : (cpV x).length = 34 := by simp [cpV, h]
theorem one_cp (x : Cp) : ∀ u ∈ cpV x, u.oneCell' = true := by
  intro u hu
  simp only [cpV, List.mem_cons, List.mem_map] at hu
  rcases hu with rfl | rfl | ⟨c, _, rfl⟩ <;> rfl
theorem one_cpA (x : Cp) : (cpA x).all (·.oneCell') = true := by
  rw [Array.all_eq_true_iff_forall_mem]
  intro v hv
  exact one_cp x v (by simpa [cpA] using hv)
def cpE : Elt Cp where
  k := 34
  rd F w vs x := vs = cpV x ∧ x.wf
  pos := by decide
  len := fun h => by rw [h.1]; exact cpV_len h.2.len
  keep := fun h _ _ => h
  imp := fun h _ => h
/-- The block's cells stand at (g, o). -/
def Cs (w : World) (g o : Nat) (x : Cp) : Prop := x.wf ∧ ∀ j v, (cpV x)[j]? = some v → w.cell? ⟨g, o + j, none⟩ = some v
theorem Cs.below {w w' : World} {g o : Nat} {x : Cp} (h : Cs w g o x) {B : Nat} (hb : Below B w w') (hg : g < B) : Cs w' g o x := ⟨h.1, fun j v hj => (hb.cell hg).trans (h.2 j v hj)⟩
theorem Cs.kind {w : World} {g o : Nat} {x : Cp} (h : Cs w g o x) : w.cell? ⟨g, o, none⟩ = some (.int .i64 x.k) := h.2 0 _ rfl
theorem Cs.gen {w : World} {g o : Nat} {x : Cp} (h : Cs w g o x) : w.cell? ⟨g, o + 1, none⟩ = some (.int .i64 x.g) := h.2 1 _ rfl
theorem addr_add (g o j : Nat) : ((⟨g, o, none⟩ : Addr).add j) = ⟨g, o + j, none⟩ := by unfold Addr.add; split <;> simp_all
theorem Cs.data {w : World} {g o : Nat} {x : Cp} (h : Cs w g o x) (hg : g < w.heap.size) {c : Nat} (hc : 32 ≤ c) (hb : c ≤ 9223372036854775807) : Sl w (some ⟨g, o + 2, none⟩) 32 c (x.d.map v8) :=
  ⟨by rw [List.length_map]; exact h.1.len, hc, hb, fun _ => ⟨_, rfl, hg, fun j u hu => by
    rw [addr_add, Nat.add_assoc]
    exact h.2 (2 + j) u (by rw [cpV, show 2 + j = j + 1 + 1 by omega]; exact hu)⟩⟩
theorem Blk.cs {w : World} {kv : Nat} {x : Cp} {t : TypeId} (h : Blk w kv (cpA x) t) (hx : x.wf) : Cs w kv 0 x := ⟨hx, fun j v hj => by
  rw [Nat.zero_add, h.cell]
  simpa [cpA] using hj⟩
/-- Block i of a slice. -/
theorem Rs.cp_at {F : Nat → Prop} {w : World} {A : Option Addr} {n c : Nat} {xs : List Cp} (h : Rs cpE F w A n c xs) {i : Nat} (hi : i < n) : ∃ g o x, A = some ⟨g, o, none⟩ ∧ F g ∧ g < w.heap.size ∧ xs[i]? = some x ∧ Cs w g (o + i * 34) x := by
  obtain ⟨g, o, x, vs, e, hF, hg, hr, ⟨rfl, hw⟩, hc⟩ := h.at_ hi
  exact ⟨g, o, x, e, hF, hg, hr, hw, fun j v hj => hc j v hj⟩
theorem Cs.var {w : World} {x : Cp} {t : TypeId} (hx : x.wf) : Cs (w.alloc (.cells (cpA x) t)) w.heap.size 0 x := (Blk.new w (cpA x) t).cs hx
theorem Rs.wfs {F : Nat → Prop} {w : World} {A : Option Addr} {n c : Nat} {xs : List Cp} (h : Rs cpE F w A n c xs) : ∀ x ∈ xs, x.wf := fun x hx => by
  obtain ⟨i, hi, rfl⟩ := List.mem_iff_getElem.1 hx
  obtain ⟨g, o, y, _, _, _, hy, hc⟩ := h.cp_at (i := i) (by rw [← h.len]; exact hi)
  rw [List.getElem?_eq_getElem hi] at hy
  cases hy
  exact hc.1

section
variable {P : Program} {w : World} {ops : Array Oper} {rest : List Oper} {o : Oper} {a : Act} {Q : Exit → Act → World → Prop} {K : Act → World → Prop}
/-- Cells, loaded as one value. -/
theorem run_loadL (ty : TypeId) {g p : Nat} {cs : List Value} {d : TypeDesc} (h : ∀ j v, cs[j]? = some v → w.cell? ⟨g, p + j, none⟩ = some v) (hu : P.underlying ty = some d) (hd : (match d with | .struct _ | .array _ _ => true | _ => false) = true) (hi : (P.info? ty).map (·.size) = some cs.length) :
    (loadVar ty ⟨g, p, none⟩).run P w = .ok (.agg cs.toArray) w := by
  have hl : (loadCells ⟨g, p, none⟩ cs.length).run P w = .ok cs.toArray w := run_loadCells_list (P := P) w ⟨g, p, none⟩ cs (fun j v hv => by rw [addr_add]; exact h j v hv)
  cases hq : P.info? ty with
  | none => simp [hq] at hi
  | some i =>
    have hs : i.size = cs.length := by simpa [hq] using hi
    have hagg : (isAgg ty).run P w = .ok true w := by
      unfold isAgg
      rw [Sem.run_bind, run_underlying hu w]
      cases d <;> simp_all
    simp [loadVar, Sem.run_bind, hagg, sizeOf, typeInfo, hq, hs, hl]
/-- The same as the walk's own arithmetic leaves it. -/
theorem run_lcf {g p n : Nat} {cs : List Value} (h : ∀ j v, cs[j]? = some v → w.cell? ⟨g, p + j, none⟩ = some v) (hn : cs.length = n) : (loadCellsFrom ⟨g, p, none⟩ 0 n #[]).run P w = .ok cs.toArray w := by
  subst hn
  have := run_loadCells_list (P := P) w ⟨g, p, none⟩ cs (fun j v hv => by rw [addr_add]; exact h j v hv)
  simpa [loadCells] using this
theorem Cs.lcfD {g p : Nat} {y : Cp} (h : Cs w g p y) : (loadCellsFrom ⟨g, p + 2, none⟩ 0 32 #[]).run P w = .ok (dA y.d) w := run_lcf (cs := y.d.map v8) (fun j v hj => by
      rw [Nat.add_assoc]
      exact h.2 (2 + j) v (by rw [cpV, show 2 + j = j + 1 + 1 by omega]; exact hj)) (by rw [List.length_map, h.1.len])
theorem Cs.lcfV {g : Nat} {y : Cp} (h : Cs w g 0 y) : (loadCellsFrom ⟨g, 2, none⟩ 0 32 #[]).run P w = .ok (dA y.d) w := h.lcfD
theorem Cs.lcfC {g p : Nat} {y : Cp} (h : Cs w g p y) : (loadCellsFrom ⟨g, p, none⟩ 0 34 #[]).run P w = .ok (cpA y) w := run_lcf h.2 (cpV_len h.1.len)
theorem exec_loadL {ρ : Operand → Value} (ty : TypeId) (x : Operand) (ho : o.op = .load ty x) {g p : Nat} (hx : ρ x = .pointer (some ⟨g, p, none⟩)) {cs : List Value} {d : TypeDesc} (h : ∀ j v, cs[j]? = some v → w.cell? ⟨g, p + j, none⟩ = some v) (hu : P.underlying ty = some d) (hd : (match d with | .struct _ | .array _ _ => true | _ => false) = true) (hi : (P.info? ty).map (·.size) = some cs.length) :
    (execOp ρ o).run P w = .ok (.value (.agg cs.toArray)) w := by
  unfold execOp
  simp only [ho, hx, Instr.loadAt, Instr.sureAddr, Sem.run_bind, Sem.run_pure, Result.andThen_ok, run_loadL ty h hu hd hi]
theorem wp_loadL (ty : TypeId) (x : Operand) (ho : o.op = .load ty x) {g p : Nat} (hx : a.eval x = .pointer (some ⟨g, p, none⟩)) {cs : List Value} {d : TypeDesc} (h : ∀ j v, cs[j]? = some v → w.cell? ⟨g, p + j, none⟩ = some v) (hu : P.underlying ty = some d) (hd : (match d with | .struct _ | .array _ _ => true | _ => false) = true) (hi : (P.info? ty).map (·.size) = some cs.length)
    (hgo : K (a.put o.dst (.agg cs.toArray)) w) : Oper.wp P o a w K Q := by
  unfold Oper.wp execOp
  simp only [ho, hx, Instr.loadAt, Instr.sureAddr, Sem.run_bind, Sem.run_pure, Result.andThen_ok, run_loadL ty h hu hd hi]
  exact hgo
theorem wpList_loadL (hw : Region.wanted o (yielded ops a.tmps) = true) (ty : TypeId) (x : Operand) (ho : o.op = .load ty x) {g p : Nat} (hx : a.eval x = .pointer (some ⟨g, p, none⟩)) {cs : List Value} {d : TypeDesc} (h : ∀ j v, cs[j]? = some v → w.cell? ⟨g, p + j, none⟩ = some v) (hu : P.underlying ty = some d) (hd : (match d with | .struct _ | .array _ _ => true | _ => false) = true) (hi : (P.info? ty).map (·.size) = some cs.length)
    (hgo : wpList P ops Q rest (a.put o.dst (.agg cs.toArray)) w) : wpList P ops Q (o :: rest) a w := BigFrame.wpList_want hw fun _ hK => wp_loadL ty x ho hx h hu hd hi (hK _ _ hgo)
/-- Cells, stored behind one another into a block. -/
theorem run_storeL {g : Nat} {cur : Array Value} {t : TypeId} (B : Blk w g cur t) (ty : TypeId) {p : Nat} {vs : List Value} (hfit : p + vs.length ≤ cur.size) (h1 : ∀ v ∈ vs, v.oneCell' = true) (hi : (P.info? ty).map (·.size) = some vs.length) :
    (storeVar ty ⟨g, p, none⟩ (.agg vs.toArray)).run P w = .ok () (setL w g p vs) := by
  have hst := run_storeCells_cells (P := P) g p vs 0 w (fun j hj => by
    rw [B.cell, Array.getElem?_eq_getElem (by omega)]
    rfl) (fun j hj => B.frozen _) h1
  simp only [Nat.add_zero] at hst
  have e : ∀ (vs : List Value) (o : Nat) (w : World), setL w g o vs = w.setCells g o vs := by
    intro vs
    induction vs with
    | nil => intro o w; rfl
    | cons v vs ih => intro o w; rw [setL, World.setCells]; exact ih _ _
  rw [← e] at hst
  cases hq : P.info? ty with
  | none => simp [hq] at hi
  | some i =>
    have hs : vs.length = i.size := by simp [hq] at hi; omega
    simp [storeVar, sizeOf, typeInfo, hq, Value.cells, hs, hst]
theorem wp_storeL {g : Nat} {cur : Array Value} {t : TypeId} (B : Blk w g cur t) (ty : TypeId) (x y : Operand) (ho : o.op = .store ty x y) {p : Nat} {vs : List Value} (hx : a.eval x = .pointer (some ⟨g, p, none⟩)) (hy : a.eval y = .agg vs.toArray) (hfit : p + vs.length ≤ cur.size) (h1 : ∀ v ∈ vs, v.oneCell' = true) (hi : (P.info? ty).map (·.size) = some vs.length)
    (hgo : K (a.put o.dst undef) (setL w g p vs)) : Oper.wp P o a w K Q := by
  unfold Oper.wp execOp
  simp only [ho, hx, hy, Instr.storeAt, Instr.sureAddr, Sem.run_bind, Sem.run_pure, Result.andThen_ok, run_storeL B ty hfit h1 hi]
  exact hgo
theorem wpList_storeL (hw : Region.wanted o (yielded ops a.tmps) = true) {g : Nat} {cur : Array Value} {t : TypeId} (B : Blk w g cur t) (ty : TypeId) (x y : Operand) (ho : o.op = .store ty x y) {p : Nat} {vs : List Value} (hx : a.eval x = .pointer (some ⟨g, p, none⟩)) (hy : a.eval y = .agg vs.toArray) (hfit : p + vs.length ≤ cur.size) (h1 : ∀ v ∈ vs, v.oneCell' = true) (hi : (P.info? ty).map (·.size) = some vs.length)
    (hgo : wpList P ops Q rest (a.put o.dst undef) (setL w g p vs)) : wpList P ops Q (o :: rest) a w := BigFrame.wpList_want hw fun _ hK => wp_storeL B ty x y ho hx hy hfit h1 hi (hK _ _ hgo)
/-- A value that an operation makes, whatever the world. -/
theorem wp_val {v : Value} (hr : (execOp a.eval o).run P w = .ok (.value v) w) (hgo : K (a.put o.dst v) w) : Oper.wp P o a w K Q := by
  unfold Oper.wp
  simp only [hr]
  exact hgo
theorem wpList_val (hw : Region.wanted o (yielded ops a.tmps) = true) {v : Value} (hr : (execOp a.eval o).run P w = .ok (.value v) w) (hgo : wpList P ops Q rest (a.put o.dst v) w) : wpList P ops Q (o :: rest) a w := BigFrame.wpList_want hw fun _ hK => wp_val hr (hK _ _ hgo)
theorem wpList_at (n : Nat) (hd : o.dst = some n) (hw : Region.wanted o (yielded ops a.tmps) = true) (v : Value) (hr : (execOp a.eval o).run P w = .ok (.value v) w) (hgo : wpList P ops Q rest (a.put o.dst v) w) : wpList P ops Q (o :: rest) a w := wpList_val hw hr hgo
theorem exec_build2 {ρ : Operand → Value} (T : TypeId) (x y : Operand) (i j : Nat) (ho : o.op = .build T #[(i, x), (j, y)]) {u v r : Value} (hx : ρ x = u) (hy : ρ y = v) (hr : (Instr.build T #[(i, u), (j, v)]).run P w = .ok r w) : (execOp ρ o).run P w = .ok (.value r) w := by
  unfold execOp
  simp only [ho, List.map_toArray, List.map_cons, List.map_nil, hx, hy, Sem.run_bind, Sem.run_pure, Result.andThen_ok, hr]
theorem exec_build0 {ρ : Operand → Value} (T : TypeId) (ho : o.op = .build T #[]) {r : Value} (hr : (Instr.build T #[]).run P w = .ok r w) : (execOp ρ o).run P w = .ok (.value r) w := by
  unfold execOp
  simp only [ho, List.map_toArray, List.map_nil, Sem.run_bind, Sem.run_pure, Result.andThen_ok, hr]
/-- 'copy' into the data of a block that lies in a variable. -/
theorem run_cpyC {dT sT ty e t : TypeId} {kv : Nat} {x : Cp} (B : Blk w kv (cpA x) t) (hx : x.d.length = 32) (hu : P.underlying dT = some (.slice e)) (hs : (P.info? e).map (·.size) = some 1) {A : Option Addr} {m c : Nat} {l : List UInt8} (hl : Sl w A m c (l.map v8)) :
    (Builtin.copy_ #[dT, sT] ty #[.slice (some ⟨kv, 2, none⟩) 32 32, .slice A m c]).run P w = .ok (goInt (Nat.min m 32)) (w.setRow kv (cpA ⟨x.k, x.g, l.take 32 ++ x.d.drop m⟩)) := by
  have hll := hl.len8
  rcases Nat.eq_zero_or_pos m with h0 | h0
  · subst h0
    have hln : l = [] := List.length_eq_zero_iff.1 hll
    subst hln
    have e1 : (⟨x.k, x.g, ([] : List UInt8).take 32 ++ x.d.drop 0⟩ : Cp) = x := by simp
    rw [e1, setRow_self w kv _ t (0, 0) B]
    exact run_copy_none (P := P) w dT sT ty e _ _ _ _ _ _ hu hs (by simp)
  · obtain ⟨ad, rfl, hb, hc⟩ := hl.cells h0
    have hmn : ((l.map v8).take 32).length = Nat.min m 32 := by
      rw [List.length_take, List.length_map, hll, Nat.min_comm]
    have h := run_copy_row (P := P) w dT sT ty e kv 2 32 32 ad m c _ t ((l.map v8).take 32) hu hs B hmn (fun j v hv => hc j v (by
      rw [List.getElem?_take] at hv
      split at hv
      · exact hv
      · cases hv)) (by
      have e := cpV_len hx
      rw [hmn, cpA, List.size_toArray, e]
      have : Nat.min m 32 ≤ 32 := Nat.min_le_right _ _
      omega) (fun v hv => by
      obtain ⟨b, _, rfl⟩ := List.mem_map.1 (List.mem_of_mem_take hv)
      rfl)
    rw [h, hmn]
    simp only [cpA]
    congr 2
    congr 1
    have e2 : 2 + Nat.min m 32 = (Nat.min m 32) + 1 + 1 := by omega
    rw [e2]
    simp only [cpV, List.take_succ_cons, List.take_zero, List.drop_succ_cons, List.cons_append, List.nil_append, List.map_append, List.map_take, List.map_drop]
    congr 3
    rcases Nat.le_total m 32 with hm | hm
    · rw [show Nat.min m 32 = m from Nat.min_eq_left hm]
    · rw [show Nat.min m 32 = 32 from Nat.min_eq_right hm, List.drop_eq_nil_of_le (by rw [List.length_map, hx]; exact Nat.le_refl _), List.drop_eq_nil_of_le (by rw [List.length_map, hx]; exact hm)]
theorem wpList_cpyC (hgd : o.guard = none) {kv : Nat} {x : Cp} {t e : TypeId} (B : Blk w kv (cpA x) t) (hx : x.d.length = 32) (d s : Operand) (dT sT : TypeId)
    (ho : o.op = .call { callee := .builtin .copy, args := #[d, s], argTypes := #[dT, sT] }) (hd : a.eval d = .slice (some ⟨kv, 2, none⟩) 32 32) (hu : P.underlying dT = some (.slice e)) (hsz : (P.info? e).map (·.size) = some 1) {A : Option Addr} {m c : Nat} {l : List UInt8} (hs : a.eval s = .slice A m c) (hl : Sl w A m c (l.map v8))
    (hgo : wpList P ops Q rest (a.put o.dst (goInt (Nat.min m 32))) (w.setRow kv (cpA ⟨x.k, x.g, l.take 32 ++ x.d.drop m⟩))) : wpList P ops Q (o :: rest) a w := by
  refine wpList_plain hgd fun K hK => ?_
  have hr := run_cpyC (P := P) (sT := sT) (ty := o.type) B hx hu hsz hl
  unfold Oper.wp execOp
  simp only [ho, resolve, invoke, builtin, Sem.run_bind, Sem.run_pure, Result.andThen_ok, List.map_toArray, List.map_cons, List.map_nil, hs, hd, hr]
  exact hK _ _ hgo
/-- A block, loaded and stored whole. -/
theorem wpList_loadC (hw : Region.wanted o (yielded ops a.tmps) = true) (ty : TypeId) (x : Operand) (ho : o.op = .load ty x) {g p : Nat} (hx : a.eval x = .pointer (some ⟨g, p, none⟩)) {y : Cp} {fs : Array Field} (h : Cs w g p y) (hu : P.underlying ty = some (.struct fs)) (hi : (P.info? ty).map (·.size) = some 34)
    (hgo : wpList P ops Q rest (a.put o.dst (.agg (cpA y))) w) : wpList P ops Q (o :: rest) a w := wpList_loadL hw ty x ho hx h.2 hu rfl (by rw [cpV_len h.1.len]; exact hi) hgo
theorem wpList_loadD (hw : Region.wanted o (yielded ops a.tmps) = true) (ty : TypeId) (x : Operand) (ho : o.op = .load ty x) {g p : Nat} (hx : a.eval x = .pointer (some ⟨g, p + 2, none⟩)) {y : Cp} {n : Nat} {e : TypeId} (h : Cs w g p y) (hu : P.underlying ty = some (.array n e)) (hi : (P.info? ty).map (·.size) = some 32)
    (hgo : wpList P ops Q rest (a.put o.dst (.agg (dA y.d))) w) : wpList P ops Q (o :: rest) a w := wpList_loadL hw ty x ho hx (cs := y.d.map v8) (fun j v hj => by
      rw [Nat.add_assoc]
      exact h.2 (2 + j) v (by rw [cpV, show 2 + j = j + 1 + 1 by omega]; exact hj)) hu rfl (by rw [List.length_map, h.1.len]; exact hi) hgo
theorem wpList_loadDV (hw : Region.wanted o (yielded ops a.tmps) = true) (ty : TypeId) (x : Operand) (ho : o.op = .load ty x) {g : Nat} (hx : a.eval x = .pointer (some ⟨g, 2, none⟩)) {y : Cp} {n : Nat} {e : TypeId} (h : Cs w g 0 y) (hu : P.underlying ty = some (.array n e)) (hi : (P.info? ty).map (·.size) = some 32)
    (hgo : wpList P ops Q rest (a.put o.dst (.agg (dA y.d))) w) : wpList P ops Q (o :: rest) a w := wpList_loadD hw ty x ho hx h hu hi hgo
theorem exec_loadC {ρ : Operand → Value} (ty : TypeId) (x : Operand) (ho : o.op = .load ty x) {g p : Nat} (hx : ρ x = .pointer (some ⟨g, p, none⟩)) {y : Cp} {fs : Array Field} (h : Cs w g p y) (hu : P.underlying ty = some (.struct fs)) (hi : (P.info? ty).map (·.size) = some 34) : (execOp ρ o).run P w = .ok (.value (.agg (cpA y))) w :=
  exec_loadL ty x ho hx h.2 hu rfl (by rw [cpV_len h.1.len]; exact hi)
theorem wp_storeC {g : Nat} {cur : Array Value} {t : TypeId} (B : Blk w g cur t) (ty : TypeId) (x y : Operand) (ho : o.op = .store ty x y) {p : Nat} {z : Cp} (hz : z.d.length = 32) (hx : a.eval x = .pointer (some ⟨g, p, none⟩)) (hy : a.eval y = .agg (cpA z)) (hfit : p + 34 ≤ cur.size) (hi : (P.info? ty).map (·.size) = some 34)
    (hgo : K (a.put o.dst undef) (setL w g p (cpV z))) : Oper.wp P o a w K Q := wp_storeL B ty x y ho hx hy (by rw [cpV_len hz]; exact hfit) (one_cp z) (by rw [cpV_len hz]; exact hi) hgo
theorem wpList_storeC (hw : Region.wanted o (yielded ops a.tmps) = true) {g : Nat} {cur : Array Value} {t : TypeId} (B : Blk w g cur t) (ty : TypeId) (x y : Operand) (ho : o.op = .store ty x y) {p : Nat} {z : Cp} (hz : z.d.length = 32) (hx : a.eval x = .pointer (some ⟨g, p, none⟩)) (hy : a.eval y = .agg (cpA z)) (hfit : p + 34 ≤ cur.size) (hi : (P.info? ty).map (·.size) = some 34)
    (hgo : wpList P ops Q rest (a.put o.dst undef) (setL w g p (cpV z))) : wpList P ops Q (o :: rest) a w := BigFrame.wpList_want hw fun _ hK => wp_storeC B ty x y ho hz hx hy hfit hi (hK _ _ hgo)
/-- A block, stored whole into a variable. -/
theorem wpList_varC (hgd : o.guard = none) (ty : TypeId) (x y : Operand) (ho : o.op = .store ty x y) {g : Nat} {u z : Cp} {t : TypeId} (B : Blk w g (cpA u) t) (hu : u.d.length = 32) (hz : z.d.length = 32) (hx : a.eval x = .pointer (some ⟨g, 0, none⟩)) (hy : a.eval y = .agg (cpA z)) (hi : (P.info? ty).map (·.size) = some 34)
    (hgo : wpList P ops Q rest (a.put o.dst undef) (w.setRow g (cpA z))) : wpList P ops Q (o :: rest) a w :=
  wpList_store_row hgd ty x y ho g (cpA z) hx hy t (cpA u) B (by rw [hi, cpA, List.size_toArray, cpV_len hz]) (by rw [cpA, cpA, List.size_toArray, List.size_toArray, cpV_len hu, cpV_len hz]) (one_cpA z) hgo
/-- The same where no guard stands. -/
theorem wpList_valP (hgd : o.guard = none) {v : Value} (hr : (execOp a.eval o).run P w = .ok (.value v) w) (hgo : wpList P ops Q rest (a.put o.dst v) w) : wpList P ops Q (o :: rest) a w := wpList_plain hgd fun _ hK => wp_val hr (hK _ _ hgo)
theorem wpList_build2 (hgd : o.guard = none) (T : TypeId) (x y : Operand) (i j : Nat) (ho : o.op = .build T #[(i, x), (j, y)]) (u v r : Value) (hx : a.eval x = u) (hy : a.eval y = v) (hr : ∀ W, (Instr.build T #[(i, u), (j, v)]).run P W = .ok r W)
    (hgo : wpList P ops Q rest (a.put o.dst r) w) : wpList P ops Q (o :: rest) a w := wpList_valP hgd (exec_build2 T x y i j ho hx hy (hr w)) hgo
theorem wpList_loadCP (hgd : o.guard = none) (ty : TypeId) (x : Operand) (ho : o.op = .load ty x) {g p : Nat} (hx : a.eval x = .pointer (some ⟨g, p, none⟩)) {y : Cp} {fs : Array Field} (h : Cs w g p y) (hu : P.underlying ty = some (.struct fs)) (hi : (P.info? ty).map (·.size) = some 34)
    (hgo : wpList P ops Q rest (a.put o.dst (.agg (cpA y))) w) : wpList P ops Q (o :: rest) a w := wpList_plain hgd fun _ hK => wp_loadL ty x ho hx h.2 hu rfl (by rw [cpV_len h.1.len]; exact hi) (hK _ _ hgo)
theorem wpList_storeCP (hgd : o.guard = none) {g : Nat} {cur : Array Value} {t : TypeId} (B : Blk w g cur t) (ty : TypeId) (x y : Operand) (ho : o.op = .store ty x y) {p : Nat} {z : Cp} (hz : z.d.length = 32) (hx : a.eval x = .pointer (some ⟨g, p, none⟩)) (hy : a.eval y = .agg (cpA z)) (hfit : p + 34 ≤ cur.size) (hi : (P.info? ty).map (·.size) = some 34)
    (hgo : wpList P ops Q rest (a.put o.dst undef) (setL w g p (cpV z))) : wpList P ops Q (o :: rest) a w := wpList_plain hgd fun _ hK => wp_storeC B ty x y ho hz hx hy hfit hi (hK _ _ hgo)
end

/-! Blocks whose rows were stored anew. -/
theorem Blk.row {w : World} {k : Nat} {u : Array Value} {t : TypeId} (h : Blk w k u t) (cs : Array Value) : Blk (w.setRow k cs) k cs t := setRow_heap w k u cs t (0, 0) h
theorem Blk.rowFar {w : World} {k g : Nat} {u : Array Value} {t : TypeId} (h : Blk w k u t) (hne : k ≠ g) (cs : Array Value) : Blk (w.setRow g cs) k u t := h.same (setRow_other w g k cs hne)
theorem Sl.rowFar {w : World} {A : Option Addr} {n c : Nat} {xs : List Value} (h : Sl w A n c xs) {g : Nat} (cs : Array Value) (hg : ∀ ad, A = some ad → ad.block ≠ g) : Sl (w.setRow g cs) A n c xs :=
  h.grown (row := some g) ⟨rfl, rfl, rfl, by rw [setRow_size]; exact Nat.le_refl _, fun k _ hk => setRow_other w g k cs (fun e => hk (by rw [e]))⟩ (fun ad e => fun e2 => hg ad e (Option.some.inj e2))

/-! Blocks that are compared. -/
theorem mapM_one {α : Type} (f : α → Option (List Lit)) (g : α → List Lit) : ∀ (l : List α), (∀ x ∈ l, f x = some (g x)) → l.mapM f = some (l.map g)
  | [], _ => rfl
  | x :: l, h => by
    rw [List.mapM_cons, h x (List.mem_cons_self ..), mapM_one f g l (fun y hy => h y (List.mem_cons_of_mem _ hy))]
    rfl
def litB (c : UInt8) : Lit := .int .u8 (c.toNat : Int)
theorem litB_wf (c : UInt8) : (Lit.int .u8 (c.toNat : Int)).wf = true := by
  have h := c.toNat_lt
  have e1 : IntKind.u8.min = 0 := by decide
  have e2 : IntKind.u8.max = 255 := by decide
  simp only [Lit.wf, Bool.and_eq_true, decide_eq_true_eq, e1, e2]
  omega
theorem litB_inj {a b : List UInt8} (h : a.map litB = b.map litB) : a = b := by
  refine (List.map_inj_right (fun x y e => ?_)).1 h
  simp only [litB, Lit.int.injEq, true_and] at e
  exact UInt8.toNat_inj.1 (by omega)
theorem arr_lits {P : Program} {t e : TypeId} {n : Nat} (hu : P.underlying t = some (.array n e)) (he : P.underlying e = some (.int .u8)) (hc : P.cellsOf t = n) (hce : P.cellsOf e = 1) (d : Nat) {l : List UInt8} (hl : l.length = n) : P.keyLits (d + 2) t (l.map v8) = some (l.map litB) := by
  unfold Program.keyLits
  simp only [hu]
  rw [if_pos (by rw [List.length_map, hc, hl]), mapM_one _ (fun i => [litB (l.getD i 0)])]
  · simp only [Option.map_some, Option.some.injEq]
    have e1 : ((List.range n).map fun i => [litB (l.getD i 0)]).flatten = (List.range n).map fun i => litB (l.getD i 0) := by
      rw [← List.flatMap_def]
      induction List.range n with
      | nil => rfl
      | cons x xs ih => rw [List.flatMap_cons, ih]; rfl
    rw [e1]
    apply List.ext_getElem?
    intro i
    by_cases hi : i < n
    · rw [List.getElem?_map, List.getElem?_range hi, List.getElem?_map, List.getElem?_eq_getElem (by omega)]
      simp [List.getD_eq_getElem?_getD, List.getElem?_eq_getElem (by omega : i < l.length)]
    · rw [List.getElem?_eq_none (by simp; omega), List.getElem?_eq_none (by simp; omega)]
  · intro i hi
    have hi := List.mem_range.1 hi
    have e2 : (((l.map v8).drop (i * P.cellsOf e)).take (P.cellsOf e)) = [v8 (l.getD i 0)] := by
      rw [hce, Nat.mul_one]
      apply List.ext_getElem?
      intro j
      rcases j with _ | j
      · simp [List.getD_eq_getElem?_getD, List.getElem?_eq_getElem (by omega : i < l.length)]
      · simp [List.getElem?_take]
    rw [e2]
    unfold Program.keyLits
    simp only [he, v8]
    rw [if_pos ⟨trivial, litB_wf _⟩]
    rfl
end Go.Wag
namespace Go.Proofs.Ytagageidiebogaa
open Go.RowKit Go.Wag
set_option linter.unusedVariables false
set_option maxRecDepth 20000
theorem szC : (Try.prog.info? 46).map (·.size) = some 34 := by kernel_rfl
theorem szD : (Try.prog.info? 44).map (·.size) = some 32 := by kernel_rfl
theorem sizC {x : Cp} (h : x.d.length = 32) : (Try.prog.info? 46).map (·.size) = some (cpV x).length := by rw [cpV_len h]; exact szC
theorem buildC (k g : Int) (W : World) : (Instr.build 46 #[(0, .int .i64 k), (1, .int .i64 g)]).run Try.prog W = .ok (.agg (cpA ⟨k, g, z32⟩)) W := by kernel_rfl
theorem buildD (W : World) : (Instr.build 44 #[]).run Try.prog W = .ok (.agg (dA z32)) W := by kernel_rfl
theorem allocC (W : World) : (Instr.alloc 46 true (.tuple #[])).run Try.prog W = .ok (.pointer (some ⟨W.heap.size, 0, none⟩)) (W.alloc (.cells (cpA c0p) 46)) := by kernel_rfl
theorem guardD : Try.prog.eqGuardType Try.prog.depth 44 = false := by kernel_rfl
theorem eqD {a b : List UInt8} (ha : a.length = 32) (hb : b.length = 32) (w : World) : (Op.equalIn 10000 44 (.agg (dA a)) (.agg (dA b))).run Try.prog w = .ok (decide (a = b)) w := by
  have f : ∀ l : List UInt8, l.length = 32 → (Value.agg (dA l)).formed Try.prog 44 = true := fun l hl => by
    have h : Try.prog.cellsOf 44 = 32 := by kernel_rfl
    simp [Value.formed, dA, Try.underlying44, h, hl]
  have L : ∀ l : List UInt8, l.length = 32 → Try.prog.keyLits 2 44 (Value.agg (dA l)).cells.toList = some (l.map litB) := fun l hl => arr_lits (d := 0) Try.underlying44 Try.underlying5 (by kernel_rfl) (by kernel_rfl) hl
  obtain ⟨r, hr, hi⟩ := run_equalIn_deep (P := Try.prog) 9998 2 44 (by kernel_rfl) w 2 2 _ _ _ _ (f a ha) (f b hb) (L a ha) (L b hb)
  rw [hr]
  congr 1
  rw [Bool.eq_iff_iff, hi, decide_eq_true_iff]
  exact ⟨litB_inj, fun e => by rw [e]⟩
theorem dA_z : dA z32 = #[.int .u8 0, .int .u8 0, .int .u8 0, .int .u8 0, .int .u8 0, .int .u8 0, .int .u8 0, .int .u8 0, .int .u8 0, .int .u8 0, .int .u8 0, .int .u8 0, .int .u8 0, .int .u8 0, .int .u8 0, .int .u8 0, .int .u8 0, .int .u8 0, .int .u8 0, .int .u8 0, .int .u8 0, .int .u8 0, .int .u8 0, .int .u8 0, .int .u8 0, .int .u8 0, .int .u8 0, .int .u8 0, .int .u8 0, .int .u8 0, .int .u8 0, .int .u8 0] := by kernel_rfl
theorem eqDz {a : List UInt8} (ha : a.length = 32) (w : World) : (Op.equalIn 10000 44 (.agg (dA a)) (.agg #[.int .u8 0, .int .u8 0, .int .u8 0, .int .u8 0, .int .u8 0, .int .u8 0, .int .u8 0, .int .u8 0, .int .u8 0, .int .u8 0, .int .u8 0, .int .u8 0, .int .u8 0, .int .u8 0, .int .u8 0, .int .u8 0, .int .u8 0, .int .u8 0, .int .u8 0, .int .u8 0, .int .u8 0, .int .u8 0, .int .u8 0, .int .u8 0, .int .u8 0, .int .u8 0, .int .u8 0, .int .u8 0, .int .u8 0, .int .u8 0, .int .u8 0, .int .u8 0])).run Try.prog w = .ok (decide (a = z32)) w := by
  have := eqD ha (show z32.length = 32 by rfl) w
  rwa [dA_z] at this
end Go.Proofs.Ytagageidiebogaa

/-
  Images as lists of blocks: plain facts. No program is named here.
-/
namespace Go.Wag
open Go.RowKit
set_option linter.unusedVariables false
set_option maxRecDepth 20000
def cpok (k g : Int) (d : List UInt8) : Bool := decide (0 ≤ k ∧ k ≤ 2 ∧ 0 ≤ g ∧ g ≤ 2147483647 ∧ (k ≠ 2 → d = z32))
def Cp.ok (x : Cp) : Bool := cpok x.k x.g x.d
theorem Cp.all {x : Cp} (h : x.ok = true) : 0 ≤ x.k ∧ x.k ≤ 2 ∧ 0 ≤ x.g ∧ x.g ≤ 2147483647 ∧ (x.k ≠ 2 → x.d = z32) := by
  exact of_decide_eq_true h
def ichk (l : List Cp) : Bool := decide (1 ≤ l.length ∧ l.length ≤ 64) && l.all Cp.ok
theorem ichk_iff {l : List Cp} : ichk l = true ↔ (1 ≤ l.length ∧ l.length ≤ 64) ∧ ∀ x ∈ l, x.ok = true := by
  unfold ichk
  rw [Bool.and_eq_true, decide_eq_true_eq, List.all_eq_true]
theorem z32_len : z32.length = 32 := rfl
theorem wf_small {n : Int} (h0 : -9223372036854775808 ≤ n) (h1 : n ≤ 9223372036854775807) : (Lit.int .i64 n).wf = true := by
  have e1 : IntKind.i64.min = -9223372036854775808 := by decide
  have e2 : IntKind.i64.max = 9223372036854775807 := by decide
  simp only [Lit.wf, Bool.and_eq_true, decide_eq_true_eq, e1, e2]
  exact ⟨h0, h1⟩
theorem c0p_wf : c0p.wf := ⟨rfl, wf_small (by decide) (by decide), wf_small (by decide) (by decide)⟩
/-- Blocks from a place on, laid anew. -/
def setsF {α : Type} (l : List α) (a : Nat) (f : Nat → α) : Nat → List α
  | 0 => l
  | j + 1 => (setsF l a f j).set (a + j) (f j)
theorem setsF_len {α : Type} (l : List α) (a : Nat) (f : Nat → α) (j : Nat) : (setsF l a f j).length = l.length := by
  induction j with
  | zero => rfl
  | succ j ih => rw [setsF, List.length_set, ih]
theorem setsF_at {α : Type} (l : List α) (a : Nat) (f : Nat → α) : ∀ (j k : Nat), a + j ≤ l.length → (setsF l a f j)[k]? = if a ≤ k ∧ k < a + j then some (f (k - a)) else l[k]?
  | 0, k, h => by rw [setsF, if_neg (by omega)]
  | j + 1, k, h => by
    rw [setsF, List.getElem?_set, setsF_len, setsF_at l a f j k (by omega)]
    by_cases h1 : a + j = k
    · subst h1
      rw [if_pos rfl, if_pos (by omega), if_pos (by omega), Nat.add_sub_cancel_left]
    · rw [if_neg h1]
      by_cases h2 : a ≤ k ∧ k < a + j
      · rw [if_pos h2, if_pos (by omega)]
      · rw [if_neg h2, if_neg (by omega)]
theorem setsF_mem {α : Type} {l : List α} {a : Nat} {f : Nat → α} {p : α → Prop} (hl : ∀ x ∈ l, p x) : ∀ (j : Nat), (∀ i, i < j → p (f i)) → ∀ x ∈ setsF l a f j, p x
  | 0, _, x, hx => hl x hx
  | j + 1, hf, x, hx => by
    rcases List.mem_or_eq_of_mem_set hx with h | h
    · exact setsF_mem hl j (fun i hi => hf i (by omega)) x h
    · rw [h]
      exact hf j (by omega)
/-- So many blocks from there on. -/
def hasF (len : Nat) (lba n : Int) : Bool := decide (0 ≤ lba ∧ 1 ≤ n ∧ n ≤ (len : Int) - lba)
def genF (g : Int) : Bool := decide (0 ≤ g ∧ g ≤ 2147483647)
/-- What cells a call of done answers, and its error. -/
def doneL (l : List Cp) (may : Bool) (r : List Cp) : List Cp := if ichk l = true then (if may = true then r else l) else []
def doneE (l : List Cp) (may : Bool) : Int := if ichk l = true then (if may = true then 0 else 81) else 90
/-- Fill. -/
def fillMay (l : List Cp) (lba n kd g : Int) : Bool := hasF l.length lba n && decide (kd = 0 ∨ kd = 1) && genF g
def fillR (l : List Cp) (lba n kd g : Int) : List Cp := setsF l lba.toNat (fun _ => ⟨kd, g, z32⟩) n.toNat
/-- Write. -/
def chunk (b : List UInt8) (i : Nat) : List UInt8 := (b.drop (32 * i)).take 32
def cellB (g : Int) (b : List UInt8) (i : Nat) : Cp := ⟨2, g, chunk b i⟩
def wrMay (l : List Cp) (lba g : Int) (b : List UInt8) : Bool := decide (b.length % 32 = 0) && hasF l.length lba ((b.length / 32 : Nat) : Int) && genF g
def wrR (l : List Cp) (lba g : Int) (b : List UInt8) : List Cp := setsF l lba.toNat (cellB g b) (b.length / 32)
/-- Read. -/
def flatB (l : List Cp) (a : Nat) : Nat → List UInt8
  | 0 => []
  | j + 1 => flatB l a j ++ ((l[a + j]?).getD c0p).d
def rdR (l : List Cp) (lba n : Int) : List UInt8 := if ichk l = true ∧ hasF l.length lba n = true then flatB l lba.toNat n.toNat else []
theorem chunk_len {b : List UInt8} {i : Nat} (h : 32 * (i + 1) ≤ b.length) : (chunk b i).length = 32 := by
  rw [chunk, List.length_take, List.length_drop]
  omega
theorem flatB_len {l : List Cp} {a : Nat} (hw : ∀ x ∈ l, x.d.length = 32) : ∀ (j : Nat), a + j ≤ l.length → (flatB l a j).length = 32 * j
  | 0, _ => rfl
  | j + 1, h => by
    rw [flatB, List.length_append, flatB_len hw j (by omega), List.getElem?_eq_getElem (by omega), Option.getD_some, hw _ (List.getElem_mem _)]
    omega
/-- Alike, and the same. -/
def alikeF : List Cp → List Cp → Bool
  | [], [] => true
  | x :: l, y :: m => decide (x.k = y.k ∧ x.d = y.d) && alikeF l m
  | _, _ => false
theorem alikeF_iff : ∀ (l m : List Cp), alikeF l m = true ↔ l.length = m.length ∧ ∀ (i : Nat) (x y : Cp), l[i]? = some x → m[i]? = some y → x.k = y.k ∧ x.d = y.d
  | [], [] => by simp [alikeF]
  | [], y :: m => by simp [alikeF]
  | x :: l, [] => by simp [alikeF]
  | x :: l, y :: m => by
    rw [alikeF, Bool.and_eq_true, decide_eq_true_eq, alikeF_iff l m]
    constructor
    · rintro ⟨h1, h2, h3⟩
      refine ⟨by simp [h2], fun i a b ha hb => ?_⟩
      cases i with
      | zero => cases ha; cases hb; exact h1
      | succ i => exact h3 i a b ha hb
    · rintro ⟨h1, h2⟩
      exact ⟨h2 0 x y rfl rfl, by simpa using h1, fun i a b ha hb => h2 (i + 1) a b ha hb⟩
theorem alike_self (l : List Cp) : alikeF l l = true := (alikeF_iff l l).2 ⟨rfl, fun i x y hx hy => by rw [hx] at hy; cases hy; exact ⟨rfl, rfl⟩⟩
theorem alike_no {l m : List Cp} {i : Nat} {x y : Cp} (hx : l[i]? = some x) (hy : m[i]? = some y) (h : ¬ (x.k = y.k ∧ x.d = y.d)) : alikeF l m = false := by
  cases ha : alikeF l m
  · rfl
  · exact absurd (((alikeF_iff l m).1 ha).2 i x y hx hy) h
theorem alike_len {l m : List Cp} (h : l.length ≠ m.length) : alikeF l m = false := by
  cases ha : alikeF l m
  · rfl
  · exact absurd ((alikeF_iff l m).1 ha).1 h
end Go.Wag

/-
  Contracts of package image: isGen, has, cell.
-/
namespace Go.Proofs.Ytagageidiebogaa
open Go.RowKit Go.Wag
set_option linter.unusedVariables false
set_option linter.unusedSimpArgs false
set_option maxRecDepth 20000
theorem iGen_any (g : Int) (w : World) : Calls Try.prog 29 #[.int .i64 g] w fun e w' => e = .returned (.bool (genF g)) ∧ w = w' := by
  unfold genF
  by_cases h0 : g ≥ 0
  · by_cases h1 : g ≤ 2147483647
    · rw [decide_eq_true ⟨h0, h1⟩]
      go_enter Try.func29, Try.ntmps29
      go_wp2
      go_ret
      exact ⟨rfl, rfl⟩
    · rw [decide_eq_false (fun hh => h1 hh.2)]
      go_enter Try.func29, Try.ntmps29
      go_wp2
      go_ret
      exact ⟨rfl, rfl⟩
  · rw [decide_eq_false (fun hh => h0 hh.1)]
    go_enter Try.func29, Try.ntmps29
    go_wp2
    go_ret
    exact ⟨rfl, rfl⟩
theorem iHas_any (A : Option Addr) (n c : Nat) (lba m : Int) (w : World) (hn : n ≤ 1000000000) (hl : lba ≤ 9223372036854775807) : Calls Try.prog 32 #[.slice A n c, .int .i64 lba, .int .i64 m] w fun e w' => e = .returned (.bool (hasF n lba m)) ∧ w = w' := by
  unfold hasF
  by_cases h0 : lba ≥ 0
  · by_cases h1 : m ≥ 1
    · by_cases h2 : m ≤ (n : Int) - lba
      · rw [decide_eq_true ⟨h0, h1, h2⟩]
        go_enter Try.func32, Try.ntmps32
        go_wp2
        go_ret
        exact ⟨rfl, rfl⟩
      · rw [decide_eq_false (fun hh => h2 hh.2.2)]
        go_enter Try.func32, Try.ntmps32
        go_wp2
        go_ret
        exact ⟨rfl, rfl⟩
    · rw [decide_eq_false (fun hh => h1 hh.2.1)]
      go_enter Try.func32, Try.ntmps32
      go_wp2
      go_ret
      exact ⟨rfl, rfl⟩
  · rw [decide_eq_false (fun hh => h0 hh.1)]
    go_enter Try.func32, Try.ntmps32
    go_wp2
    go_ret
    exact ⟨rfl, rfl⟩
theorem un23 : Try.prog.underlying 37 = some (.slice 5) := Try.underlying37
theorem sz8 : (Try.prog.info? 5).map (·.size) = some 1 := by kernel_rfl
/-- What cell makes of bytes. -/
def cellD (b : List UInt8) : List UInt8 := b.take 32 ++ z32.drop b.length
theorem cellD_len (b : List UInt8) : (cellD b).length = 32 := by
  rw [cellD, List.length_append, List.length_take, List.length_drop, z32_len]
  omega
set_option maxHeartbeats 1000000 in
theorem iCell_any (k g : Int) (A : Option Addr) (n c : Nat) (b : List UInt8) (w : World) (h : Sl w A n c (b.map v8)) (hkw : (Lit.int .i64 k).wf = true) (hgw : (Lit.int .i64 g).wf = true) :
    Calls Try.prog 21 #[.int .i64 k, .int .i64 g, .slice A n c] w fun e w' => e = .returned (.agg (cpA ⟨k, g, cellD b⟩)) ∧ Below w.heap.size w w' := by
  have hbn : b.length = n := h.len8
  go_enter Try.func21, Try.ntmps21
  go_upto_region 1 with (with_reducible refine wpList_new rfl 46 rfl (cpA c0p) 46 allocC ?_)
  have V0 := Blk.new w (cpA c0p) 46
  have bb := (Below.refl w.heap.size w).alloc (Nat.le_refl _) (.cells (cpA c0p) 46)
  replace h := h.alloc (.cells (cpA c0p) 46)
  have hs0 : w.heap.size < (w.alloc (.cells (cpA c0p) 46)).heap.size := V0.lt
  generalize w.alloc (.cells (cpA c0p) 46) = w1 at *
  obtain ⟨k0, hk0⟩ : ∃ x, w.heap.size = x := ⟨_, rfl⟩
  try simp only [hk0] at V0 ⊢
  go_upto_region 2 with (first | with_reducible refine wpList_new rfl 46 rfl (cpA c0p) 46 allocC ?_ | with_reducible refine wpList_build2 rfl 46 (.tmp 8) (.tmp 9) 0 1 rfl (.int .i64 k) (.int .i64 g) _ rfl rfl (buildC k g) ?_ | with_reducible refine wpList_varC rfl 46 (.tmp 7) (.tmp 10) rfl (Blk.new w1 (cpA c0p) 46) rfl rfl rfl rfl szC ?_)
  try simp only [Act.put, List.setIfInBounds_toArray, List.set_cons_zero, List.set_cons_succ]
  have V1 := (Blk.new w1 (cpA c0p) 46).row (cpA ⟨k, g, z32⟩)
  have b1 := below_setRow ((Below.refl w1.heap.size w1).alloc (Nat.le_refl _) (.cells (cpA c0p) 46)) (Nat.le_refl _) (cpA ⟨k, g, z32⟩)
  replace V0 := V0.under b1
  replace h := h.below b1
  replace bb := bb.trans (b1.mono (Nat.le_of_lt hs0))
  have hk1 : k0 < w1.heap.size := by rw [← hk0]; exact hs0
  clear b1
  generalize (w1.alloc (.cells (cpA c0p) 46)).setRow w1.heap.size (cpA ⟨k, g, z32⟩) = w2 at *
  generalize w1.heap.size = k1 at *
  go_upto_region 3 with (with_reducible refine wpList_cpyC rfl V1 rfl (.tmp 12) (.tmp 13) 37 37 rfl rfl un23 sz8 rfl h ?_)
  try simp only [Act.put, List.setIfInBounds_toArray, List.set_cons_zero, List.set_cons_succ]
  have V2 := V1.row (cpA ⟨k, g, b.take 32 ++ z32.drop n⟩)
  replace V0 := V0.rowFar (show k0 ≠ k1 by omega) (cpA ⟨k, g, b.take 32 ++ z32.drop n⟩)
  replace bb := below_setRow bb (show w.heap.size ≤ k1 by omega) (cpA ⟨k, g, b.take 32 ++ z32.drop n⟩)
  clear V1 h
  generalize w2.setRow k1 (cpA ⟨k, g, b.take 32 ++ z32.drop n⟩) = w3 at *
  rw [show (⟨k, g, b.take 32 ++ z32.drop n⟩ : Cp) = ⟨k, g, cellD b⟩ by rw [cellD, hbn]] at V2
  have C2 : Cs w3 k1 0 ⟨k, g, cellD b⟩ := V2.cs ⟨cellD_len b, hkw, hgw⟩
  go_wp2_with (first | with_reducible refine wpList_loadCP rfl 46 (.tmp 7) rfl rfl C2 Try.underlying46 szC ?_ | with_reducible refine wpList_varC rfl 46 (.tmp 6) (.tmp 15) rfl V0 rfl (cellD_len b) rfl rfl szC ?_)
  try simp only [Exit.inBlock, Exit.then]
  have V3 := V0.row (cpA ⟨k, g, cellD b⟩)
  have bb3 := below_setRow bb (show w.heap.size ≤ k0 by omega) (cpA ⟨k, g, cellD b⟩)
  exact ret_blk rfl rfl V3 Try.underlying46 (by rw [cpA, List.size_toArray, cpV_len (cellD_len b)]; exact szC) ⟨rfl, bb3⟩
end Go.Proofs.Ytagageidiebogaa

/-
  Contracts of image.Check and slices.Clone of blocks, of the document's Check, fits and Same of images (written by gen_im2.py).
-/
namespace Go.Wag
open Go.RowKit
set_option linter.unusedVariables false
theorem ichk_no {l : List Cp} {i : Nat} {x : Cp} (hx : l[i]? = some x) (h : x.ok = false) : ichk l = false := by
  cases hi : ichk l
  · rfl
  · have := (ichk_iff.1 hi).2 x (List.mem_iff_getElem?.2 ⟨i, hx⟩)
    rw [h] at this
    cases this
theorem ichk_len {l : List Cp} {n : Nat} (hn : l.length = n) (h : n < 1 ∨ 64 < n) : ichk l = false := by
  cases hi : ichk l
  · rfl
  · have := (ichk_iff.1 hi).1
    omega
theorem cpok_no {x : Cp} (h : ¬ (0 ≤ x.k ∧ x.k ≤ 2 ∧ 0 ≤ x.g ∧ x.g ≤ 2147483647 ∧ (x.k ≠ 2 → x.d = z32))) : x.ok = false := decide_eq_false h
theorem all_take {l : List Cp} {k : Nat} {x : Cp} (h : ∀ y ∈ l.take k, y.ok = true) (hx : l[k]? = some x) (ho : x.ok = true) : ∀ y ∈ l.take (k + 1), y.ok = true := by
  intro y hy
  rw [take_one hx] at hy
  rcases List.mem_append.1 hy with h1 | h1
  · exact h y h1
  · rw [List.mem_singleton.1 h1]
    exact ho
theorem setRow_new {w : World} {t : TypeId} (c : Array Value) : (w.alloc (.cells (cpA c0p) t)).setRow w.heap.size c = w.alloc (.cells c t) := World.setRow_alloc_new w _ c t
end Go.Wag
namespace Go.Proofs.Ytagageidiebogaa
open Go.RowKit Go.Wag
set_option linter.unusedVariables false
set_option linter.unusedSimpArgs false
set_option maxRecDepth 20000
theorem genF_yes {g : Int} (h0 : 0 ≤ g) (h1 : g ≤ 2147483647) : genF g = true := decide_eq_true ⟨h0, h1⟩
theorem genF_no {g : Int} (h : ¬ (0 ≤ g ∧ g ≤ 2147483647)) : genF g = false := decide_eq_false h
set_option maxHeartbeats 2000000 in
theorem iCheck_any {F : Nat → Prop} (xs : List Cp) (A : Option Addr) (n c : Nat) (w : World) (h : Rs cpE F w A n c xs) :
    Calls Try.prog 12 #[.slice A n c] w fun e w' => e = .returned (.bool (ichk xs)) ∧ Below w.heap.size w w' := by
  have HN : Hid (xs.length = n) := h.len
  have hcap := h.cap
  have hbig := h.big
  by_cases h1 : (n : Int) < 1
  · rw [ichk_len HN.out (.inl (by omega))]
    go_enter Try.func12, Try.ntmps12
    go_wp2
    go_ret
    exact ⟨rfl, Below.refl _ _⟩
  by_cases h64 : (n : Int) > 64
  · rw [ichk_len HN.out (.inr (by omega))]
    go_enter Try.func12, Try.ntmps12
    go_wp2
    go_ret
    exact ⟨rfl, Below.refl _ _⟩
  go_enter Try.func12, Try.ntmps12
  go_wp2_with fail
  go_loopg [15] n (fun g i wr => ∃ k : Nat, k + g = n ∧ i = .int .i64 (k : Int) ∧ Hid (∀ x ∈ xs.take k, x.ok = true) ∧ Below w.heap.size w wr)
  case atStart => exact ⟨0, by omega, rfl, fun x hx => absurd hx (by simp), Below.refl _ _⟩
  case round =>
    obtain ⟨k, hk, rfl, hall, bb⟩ := hrel
    by_cases hlt : (k : Int) < (n : Int)
    · obtain ⟨g, rfl⟩ : ∃ g, gk = g + 1 := ⟨gk - 1, by omega⟩
      obtain ⟨gb, o, x, rfl, _, hg, hz, C0⟩ := h.cp_at (show k < n by omega)
      have C := C0.below bb hg
      have hxw := C.1.len
      clear C0
      go_upto_region 6 with (first | with_reducible refine wpList_loadCP rfl 46 (.tmp 17) rfl rfl C Try.underlying46 szC ?_ | with_reducible refine wpList_new rfl 46 rfl (cpA c0p) 46 allocC ?_ | with_reducible refine wpList_varC rfl 46 (.tmp 4) (.tmp 18) rfl (Blk.new wr (cpA c0p) 46) rfl hxw rfl rfl szC ?_)
      try simp only [Act.put, List.setIfInBounds_toArray, List.set_cons_zero, List.set_cons_succ]
      simp only [setRow_new]
      have V := Cs.var (w := wr) (t := 46) C.1
      have bb2 := bb.alloc bb.size (.cells (cpA x) 46)
      clear C bb
      generalize wr.alloc (.cells (cpA x) 46) = w2 at *
      generalize wr.heap.size = kx at *
      have v0 := V.kind
      have v1 := V.gen
      have hG := guardD
      have hE := eqD hxw z32_len
      by_cases k0 : x.k < 0
      · have hno : Hid (ichk xs = false) := ichk_no hz (cpok_no (by omega))
        go_wp2
        go_ret
        rw [hno.out]
        exact ⟨rfl, bb2⟩
      by_cases k2 : x.k > 2
      · have hno : Hid (ichk xs = false) := ichk_no hz (cpok_no (by omega))
        go_wp2
        go_ret
        rw [hno.out]
        exact ⟨rfl, bb2⟩
      have hC := iGen_any x.g w2
      by_cases hgn : 0 ≤ x.g ∧ x.g ≤ 2147483647
      · rw [genF_yes hgn.1 hgn.2] at hC
        go_wp2_with fail
        refine hC.mono ?_
        clear hC
        rintro e w3 ⟨rfl, rfl⟩
        by_cases ke : x.k = 2
        · have hok := Lib.hid (all_take hall.out hz (decide_eq_true ⟨by omega, by omega, hgn.1, hgn.2, fun hh => absurd ke hh⟩))
          have kb : (x.k != 2) = false := by simp [ke]
          go_wp2
          go_roundg g
          case measure => omega
          case rel => exact ⟨k + 1, by omega, by first | rfl | (simp; done) | (simp; exact wrap64_small (by omega) (by omega)), hok, bb2⟩
        · have kb : (x.k != 2) = true := by simp [ke]
          by_cases hd : x.d = z32
          · have hok := Lib.hid (all_take hall.out hz (decide_eq_true ⟨by omega, by omega, hgn.1, hgn.2, fun _ => hd⟩))
            rw [decide_eq_true hd] at hE
            clear hd
            go_wp2_with (first | ((with_reducible refine wpList_at 37 rfl ?_ (.pointer (some ⟨kx, 2, none⟩)) ?_ ?_); (· rfl); (· go_simp)) | ((with_reducible refine wpList_loadDV ?_ 44 (.tmp 37) rfl ?_ V Try.underlying44 szD ?_); (· rfl); (· rfl)) | ((with_reducible refine wpList_at 39 rfl ?_ (.agg (dA z32)) ?_ ?_); (· rfl); (· exact exec_build0 44 rfl (buildD _))))
            go_roundg g
            case measure => omega
            case rel => exact ⟨k + 1, by omega, by first | rfl | (simp; done) | (simp; exact wrap64_small (by omega) (by omega)), hok, bb2⟩
          · have hno : Hid (ichk xs = false) := ichk_no hz (cpok_no (fun hh => hd (hh.2.2.2.2 ke)))
            rw [decide_eq_false hd] at hE
            go_wp2_with (first | ((with_reducible refine wpList_at 37 rfl ?_ (.pointer (some ⟨kx, 2, none⟩)) ?_ ?_); (· rfl); (· go_simp)) | ((with_reducible refine wpList_loadDV ?_ 44 (.tmp 37) rfl ?_ V Try.underlying44 szD ?_); (· rfl); (· rfl)) | ((with_reducible refine wpList_at 39 rfl ?_ (.agg (dA z32)) ?_ ?_); (· rfl); (· exact exec_build0 44 rfl (buildD _))))
            go_ret
            rw [hno.out]
            exact ⟨rfl, bb2⟩
      · have hno : Hid (ichk xs = false) := ichk_no hz (cpok_no (fun hh => hgn ⟨hh.2.2.1, hh.2.2.2.1⟩))
        rw [genF_no hgn] at hC
        go_wp2_with fail
        refine hC.mono ?_
        rintro e w3 ⟨rfl, rfl⟩
        go_wp2
        go_ret
        rw [hno.out]
        exact ⟨rfl, bb2⟩
    · obtain rfl : k = n := by omega
      have hyes : Hid (ichk xs = true) := ichk_iff.2 ⟨by rw [HN.out]; omega, fun x hx => hall.out x (by rw [List.take_of_length_le (Nat.le_of_eq HN.out)]; exact hx)⟩
      go_wp2
      go_ret
      rw [hyes.out]
      exact ⟨rfl, bb⟩
end Go.Proofs.Ytagageidiebogaa

/-
  Rows of blocks: appended to, and made (written by gen_im3.py). Clone, done and the closures of image.
-/
namespace Go.Wag
open Go.RowKit
set_option linter.unusedVariables false
set_option maxRecDepth 20000
/-- The cells of a slice of blocks. -/
theorem rs_cellsC {w : World} {F : Nat → Prop} {A : Option Addr} {n c : Nat} {xs : List Cp} (h : Rs cpE F w A n c xs) (hn : 0 < n) : ∃ (g o : Nat) (vs : List Value), A = some ⟨g, o, none⟩ ∧ vs.length = n * 34 ∧ (∀ u ∈ vs, u.oneCell' = true) ∧ (∀ j u, vs[j]? = some u → w.cell? ⟨g, o + j, none⟩ = some u) ∧
    ∀ i x, xs[i]? = some x → ∃ us, cpE.rd F w us x ∧ ∀ j v, us[j]? = some v → vs[i * 34 + j]? = some v := by
  obtain ⟨g, o, e, hF, hg, hc⟩ := h.cells hn
  have key : ∀ j, j < n * 34 → ∃ x us, xs[j / 34]? = some x ∧ cpE.rd F w us x ∧ ∃ v, us[j % 34]? = some v ∧ w.cell? ⟨g, o + j, none⟩ = some v := fun j hj => by
    have hi : j / 34 < xs.length := by have := h.len; omega
    obtain ⟨us, hr, hv⟩ := hc (j / 34) xs[j / 34] (List.getElem?_eq_getElem hi)
    have hul : us.length = 34 := cpE.len hr
    refine ⟨xs[j / 34], us, List.getElem?_eq_getElem hi, hr, us[j % 34]'(by omega), List.getElem?_eq_getElem _, ?_⟩
    have := hv (j % 34) _ (List.getElem?_eq_getElem (by omega))
    have e5 : cpE.k = 34 := rfl
    rw [e5, Nat.add_assoc, show j / 34 * 34 + j % 34 = j by omega] at this
    exact this
  refine ⟨g, o, (List.range (n * 34)).map (fun j => (w.cell? ⟨g, o + j, none⟩).getD undef), e, by simp, fun u hu => ?_, fun j u hj => ?_, fun i x hx => ?_⟩
  · obtain ⟨j, hj, rfl⟩ := List.mem_map.1 hu
    obtain ⟨x, us, _, ⟨rfl, _⟩, v, hv, hw⟩ := key j (List.mem_range.1 hj)
    rw [hw]
    exact one_cp _ v (List.mem_of_getElem? hv)
  · have hjl := (List.getElem?_eq_some_iff.1 hj).1
    simp only [List.length_map, List.length_range] at hjl
    obtain ⟨x, us, _, _, v, _, hw⟩ := key j hjl
    rw [List.getElem?_map, List.getElem?_range hjl, Option.map_some, hw] at hj
    cases hj
    exact hw
  · obtain ⟨us, hr, hv⟩ := hc i x hx
    refine ⟨us, hr, fun j v hj => ?_⟩
    have hul : us.length = 34 := cpE.len hr
    have hjl := (List.getElem?_eq_some_iff.1 hj).1
    have hi := (List.getElem?_eq_some_iff.1 hx).1
    have hn2 := h.len
    have hw := hv j v hj
    have e5 : cpE.k = 34 := rfl
    rw [e5, Nat.add_assoc] at hw
    rw [List.getElem?_map, List.getElem?_range (by omega), Option.map_some, hw]
    rfl
/-- A slice of blocks more. -/
theorem Rq.appCs {P : Program} {F : Nat → Prop} {B : Nat} {t : TypeId} {w : World} {A : Option Addr} {n c : Nat} {xs : List Cp} (h : Rq cpE F B t w A n c xs) {T ty : TypeId} {i0 : TypeInfo} {z : Value} {bytes : Nat} (hT : P.underlying T = some (.slice t)) (hi : P.info? t = some i0) (hz : i0.zero = some z) (hsz : i0.size = 34) (hby : i0.bytes = bytes) (hzs : z.cells.size = 34)
    (hB : B ≤ w.heap.size) {Ay : Option Addr} {m cy : Nat} {ys : List Cp} (hy : Rs cpE (fun b => F b ∧ (Value.slice A n c).ownBlock ≠ some b) w Ay m cy ys) (hn : (n + m) * bytes ≤ 140737488355328) (hn2 : n + m ≤ 9223372036854775807) :
    ∃ A' c' w', (Builtin.append_ #[T, T] ty #[.slice A n c, .slice Ay m cy]).run P w = .ok (.slice A' (n + m) c') w' ∧ Rq cpE F B t w' A' (n + m) c' (xs ++ ys) ∧ w.grownBy w' (Value.slice A n c).ownBlock ∧
      ((Value.slice A' (n + m) c').ownBlock = (Value.slice A n c).ownBlock ∨ (Value.slice A' (n + m) c').ownBlock = some w.heap.size) := by
  cases Ay with
  | none =>
    obtain rfl : m = 0 := by
      rcases Nat.eq_zero_or_pos m with h0 | h0
      · exact h0
      · obtain ⟨g, o, e, _⟩ := hy.cells h0
        cases e
    obtain rfl : ys = [] := List.length_eq_zero_iff.1 hy.len
    obtain ⟨cs, hc, _⟩ := id h.row
    refine ⟨A, c, w, ?_, by simpa using h, World.grownBy.refl _ _, .inl rfl⟩
    rcases hc.2 with ⟨hv, rfl⟩ | ⟨g, cap, cur, hv, _, _, hnc, _⟩
    · obtain ⟨rfl, -, rfl⟩ : A = none ∧ 0 = 0 ∧ c = 0 := by simpa using hv
      simp [Builtin.append_, run_underlying hT, sizeOf, typeInfo, hi, Builtin.lenOf, Builtin.firstCells]
    · obtain ⟨rfl, rfl⟩ : A = some ⟨g, 0, none⟩ ∧ c = cap := by simpa using hv
      simp [Builtin.append_, run_underlying hT, sizeOf, typeInfo, hi, Builtin.lenOf, Builtin.firstCells, hnc, storeCells]
  | some ad =>
    obtain ⟨vs, hvl, h1, hvc, hvx⟩ : ∃ vs : List Value, vs.length = m * 34 ∧ (∀ u ∈ vs, u.oneCell' = true) ∧ (∀ j u, vs[j]? = some u → w.cell? (ad.add j) = some u) ∧
        ∀ i x, ys[i]? = some x → ∃ us, cpE.rd (fun b => F b ∧ (Value.slice A n c).ownBlock ≠ some b) w us x ∧ ∀ j v, us[j]? = some v → vs[i * 34 + j]? = some v := by
      rcases Nat.eq_zero_or_pos m with h0 | h0
      · subst h0
        obtain rfl : ys = [] := List.length_eq_zero_iff.1 hy.len
        exact ⟨[], by simp, by simp, by simp, by simp⟩
      · obtain ⟨gy, oy, vs, e, hvl, h1, hvc, hvx⟩ := rs_cellsC hy h0
        cases e
        refine ⟨vs, hvl, h1, fun j u hu => ?_, hvx⟩
        have e : ((⟨gy, oy, none⟩ : Addr).add j) = ⟨gy, oy + j, none⟩ := by unfold Addr.add; split <;> simp_all
        rw [e]
        exact hvc j u hu
    obtain ⟨cs, hc, hz0⟩ := h.row
    obtain ⟨v', w', hr, h2, h3, _, h5⟩ := run_append_own_at (P := P) w B T ty t i0 z 34 bytes hT hi hz hsz hby hzs (by decide) (.slice A n c) n cs hc ad m cy vs hvl hvc h1 (by simp only [maxLen]; omega) hn hB
    obtain ⟨A', c', rfl⟩ := own_form h2
    have hxl : cs.length = n * 34 := hc.1
    have hl := h.len
    have step : ∀ {us : List Value} {y : Cp}, cpE.rd (fun b => F b ∧ (Value.slice A n c).ownBlock ≠ some b) w us y → cpE.rd (fun b => F b ∧ (Value.slice A' (n + m) c').ownBlock ≠ some b) w' us y := fun {us y} hy => by
      have k1 : cpE.rd (fun b => F b ∧ (Value.slice A n c).ownBlock ≠ some b ∧ (Value.slice A' (n + m) c').ownBlock ≠ some b) w us y := cpE.imp hy (fun b hb hh => ⟨hh.1, hh.2, by
        rcases h5 with e | e
        · rw [e]; exact hh.2
        · rw [e]; intro e2; have := Option.some.inj e2; omega⟩)
      exact cpE.imp (cpE.keep k1 h3.size (fun p hp hF => World.cell?_of_block (h3.block _ hp (fun e => hF.2.1 e.symm)))) (fun b _ hh => ⟨hh.1, hh.2.2⟩)
    refine ⟨A', c', w', hr, ⟨by rw [List.length_append, hl, hy.len], _, h2, fun i y hi => ?_⟩, h3, h5⟩
    by_cases hin : i < n
    · rw [List.getElem?_append_left (by omega)] at hi
      obtain ⟨us, hy, hv⟩ := hz0 i y hi
      refine ⟨us, step hy, fun j v hj => ?_⟩
      have hul : us.length = 34 := cpE.len hy
      have hjl := (List.getElem?_eq_some_iff.1 hj).1
      have e5 : cpE.k = 34 := rfl
      rw [e5, List.getElem?_append_left (by omega)]
      exact hv j v hj
    · rw [List.getElem?_append_right (by omega), hl] at hi
      obtain ⟨us, hy, hv⟩ := hvx (i - n) y hi
      refine ⟨us, step hy, fun j v hj => ?_⟩
      have e5 : cpE.k = 34 := rfl
      rw [e5, List.getElem?_append_right (by omega), hxl, show i * 34 + j - n * 34 = (i - n) * 34 + j by omega]
      exact hv j v hj
theorem rq_emptyC {F : Nat → Prop} {B : Nat} {t : TypeId} (w : World) (hB : B ≤ w.heap.size) : Rq cpE F B t (w.alloc (.cells #[] t)) (some ⟨w.heap.size, 0, none⟩) 0 0 [] :=
  ⟨rfl, [], ⟨by simp, .inr ⟨w.heap.size, 0, #[], rfl, hB, heap_alloc_new w _, Nat.le_refl _, by simp only [maxLen]; omega, by simp, by simp⟩⟩, fun i z h => by simp at h⟩
/-- A row of blocks as one whose members are stored anew, with all that is known of its block. -/
theorem Rq.opened {B : Nat} {t : TypeId} {w : World} {A : Option Addr} {n c : Nat} {xs : List Cp} {F : Nat → Prop} (h : Rq cpE F B t w A n c xs) (hn : 0 < n) : ∃ g, A = some ⟨g, 0, none⟩ ∧ B ≤ g ∧ n ≤ c ∧ c ≤ 9223372036854775807 ∧ Ro cpE (fun _ => True) t w g xs := by
  obtain ⟨g, e, hB, hc, hb, hR⟩ := h.toRo hn
  exact ⟨g, e, hB, hc, hb, hR.imp (fun _ _ _ => trivial)⟩
theorem rq_any {B : Nat} {t : TypeId} {w : World} {A : Option Addr} {n c : Nat} {xs : List Cp} {F F' : Nat → Prop} (h : Rq cpE F B t w A n c xs) : Rq cpE F' B t w A n c xs := ⟨h.len, h.row⟩
end Go.Wag
namespace Go.Proofs.Ytagageidiebogaa
open Go.RowKit Go.Wag
set_option linter.unusedVariables false
set_option linter.unusedSimpArgs false
set_option maxRecDepth 20000
theorem iCp : ∃ i, Try.prog.info? 46 = some i ∧ i.zero = some (.agg (cpA c0p)) ∧ i.size = 34 ∧ i.bytes = 48 := by
  refine ⟨_, rfl, ?_, ?_, ?_⟩ <;> kernel_rfl
theorem zC34 : (Value.agg (cpA c0p)).cells.size = 34 := rfl
/-- Blocks in memory of their own. -/
def CPost (w : World) (ys : List Cp) (e : Ending) (w' : World) : Prop := ∃ A n c, Hid (ys.length = n) ∧ e = .returned (.slice A n c) ∧ Rq cpE (fun x => w.heap.size ≤ x) w.heap.size 46 w' A n c ys ∧ Below w.heap.size w w'
/-- The same, and a number. -/
def CErr (w : World) (ys : List Cp) (er : Int) (e : Ending) (w' : World) : Prop := ∃ A n c, Hid (ys.length = n) ∧ e = .returned (.tuple #[.slice A n c, .int .i64 er]) ∧ Rs cpE (fun x => w.heap.size ≤ x) w' A n c ys ∧ Below w.heap.size w w'
theorem CErr.nil {w w' : World} (er : Int) (hb : Below w.heap.size w w') : CErr w [] er (.returned (.tuple #[.slice none 0 0, .int .i64 er])) w' := ⟨none, 0, 0, rfl, rfl, Rs.nil _ _ _, hb⟩
theorem sl_nil_eq (ad : Addr) (n c : Nat) (w : World) : (binOp .eql 22 (.slice (some ad) n c) (.slice none 0 0)).run Try.prog w = .ok (.bool false) w := by
  have := run_equal_slice_nil (P := Try.prog) w 22 46 (some ad) n c Try.underlying22
  simp only [binOp, Sem.run_bind, this, Result.andThen_ok, Sem.run_pure]
  rfl
set_option maxHeartbeats 1000000 in
theorem iClone_any {F : Nat → Prop} (xs : List Cp) (A : Option Addr) (n c : Nat) (w : World) (h : Rs cpE F w A n c xs) (h0 : 0 < n) (hn : n ≤ 1000000000) :
    Calls Try.prog 45 #[.slice A n c] w (CPost w xs) := by
  have hcap := h.cap
  have hbig := h.big
  obtain ⟨iX, hiX, hzX, hsX, hbX⟩ := iCp
  obtain ⟨g, o, rfl, _, hg, _⟩ := h.cells h0
  have O0 := rq_emptyC (F := fun _ => True) (B := w.heap.size) (t := 46) w (Nat.le_refl _)
  have a1 := (Below.refl w.heap.size w).alloc (Nat.le_refl _) (.cells #[] 46)
  have hS := ((h.imp (F' := fun z => z ≠ w.heap.size) (fun z hz _ => by omega)).below a1).imp (F' := fun z => True ∧ (Value.slice (some ⟨w.heap.size, 0, none⟩) 0 0).ownBlock ≠ some z) (fun z _ hz => ⟨trivial, fun e => hz (Option.some.inj e).symm⟩)
  obtain ⟨A5, c5, w5, hr, R5, gr, hlies⟩ := O0.appCs (P := Try.prog) (T := 22) (ty := 22) Try.underlying22 hiX hzX hsX hbX zC34 a1.size hS (by omega) (by omega)
  have b5 := a1.grown gr a1.size (fun z hz => by have : some w.heap.size = some z := hz; cases this; exact Nat.le_refl _)
  rw [List.nil_append, Nat.zero_add] at R5
  rw [Nat.zero_add] at hr
  have hq := sl_nil_eq ⟨g, o, none⟩ n c
  go_enter Try.func45, Try.ntmps45
  go_wp2_with (at_builtin; refine wpList_run rfl (.tmp 5) (.tmp 6) 22 rfl rfl rfl hr ?_; intro _)
  go_ret
  exact ⟨A5, n, c5, h.len, rfl, rq_any R5, b5⟩
end Go.Proofs.Ytagageidiebogaa

/-
  Contracts of the closures of image and of done (written by gen_im4.py).
-/
namespace Go.Wag
open Go.RowKit
set_option linter.unusedVariables false
theorem But.below2 {k : Nat} {w w1 w2 : World} (h : But k w w1) (hb : Below w1.heap.size w1 w2) : But k w w2 := ⟨Nat.le_trans h.size hb.size, fun j hj hne => (hb.block j (Nat.lt_of_lt_of_le hj h.size)).trans (h.block j hj hne)⟩
theorem But.then {k : Nat} {w w1 w2 : World} (h : But k w w1) (hb : But k w1 w2) : But k w w2 := ⟨Nat.le_trans h.size hb.size, fun j hj hne => (hb.block j (Nat.lt_of_lt_of_le hj h.size) hne).trans (h.block j hj hne)⟩
theorem cellD_nil : z32.take 0 ++ z32 = z32 := rfl
end Go.Wag
namespace Go.Proofs.Ytagageidiebogaa
open Go.RowKit Go.Wag
set_option linter.unusedVariables false
set_option linter.unusedSimpArgs false
set_option maxRecDepth 20000
theorem cellD_none : cellD [] = z32 := by rfl
theorem cellD_chunk {b : List UInt8} {i : Nat} (h : 32 * (i + 1) ≤ b.length) : cellD (b.drop (32 * i)) = chunk b i := by
  have e : z32.drop (b.drop (32 * i)).length = [] := List.drop_eq_nil_of_le (by rw [z32_len, List.length_drop]; omega)
  rw [cellD, e, List.append_nil]
  rfl
set_option maxHeartbeats 2000000 in
theorem iFill1_any (B gl : Nat) (xs : List Cp) (nn c : Nat) (kn kk kg kl : Nat) (m lba : Nat) (kd g : Int) (w : World) (R : Ro cpE (fun _ => True) 46 w gl xs) (hB : B ≤ gl) (hlen : xs.length = nn) (hc : nn ≤ c) (hcb : c ≤ 9223372036854775807)
    (hn : Blk w kn #[.int .i64 (m : Int)] 3) (hk : Blk w kk #[.int .i64 kd] 3) (hg : Blk w kg #[.int .i64 g] 3) (hl : Blk w kl #[.int .i64 (lba : Int)] 3) (n1 : kn ≠ gl) (n2 : kk ≠ gl) (n3 : kg ≠ gl) (n4 : kl ≠ gl)
    (hfit : lba + m ≤ nn) (hnn : nn ≤ 1000000) (hkw : (Lit.int .i64 kd).wf = true) (hgw : (Lit.int .i64 g).wf = true) :
    Calls Try.prog 34 #[.slice (some ⟨gl, 0, none⟩) nn c, .pointer (some ⟨kn, 0, none⟩), .pointer (some ⟨kk, 0, none⟩), .pointer (some ⟨kg, 0, none⟩), .pointer (some ⟨kl, 0, none⟩)] w fun e w' => e = .returned (.tuple #[]) ∧ Ro cpE (fun _ => True) 46 w' gl (setsF xs lba (fun _ => ⟨kd, g, z32⟩) m) ∧ Below B w w' := by
  have v0 := hn.one.1
  go_enter Try.func34, Try.ntmps34
  go_wp2_with fail
  clear v0
  go_loopg [8] m (fun q i wr => ∃ j : Nat, j + q = m ∧ i = .int .i64 (j : Int) ∧ Ro cpE (fun _ => True) 46 wr gl (setsF xs lba (fun _ => ⟨kd, g, z32⟩) j) ∧ But gl w wr ∧ Below B w wr)
  case atStart => exact ⟨0, by omega, rfl, R, But.refl _ _, Below.refl _ _⟩
  case round =>
    clear R
    obtain ⟨j, hj, rfl, R, bt, bb⟩ := hrel
    have hsB : B ≤ wr.heap.size := Nat.le_trans hB (Nat.le_of_lt R.lt)
    by_cases hlt : (j : Int) < (m : Int)
    · obtain ⟨q, rfl⟩ : ∃ q, gk = q + 1 := ⟨gk - 1, by omega⟩
      have v2 := (hk.but bt n2).one.1
      have v3 := (hg.but bt n3).one.1
      have v4 := (hl.but bt n4).one.1
      have l2 := (hk.but bt n2).lt
      have l3 := (hg.but bt n3).lt
      have l4 := (hl.but bt n4).lt
      have hC := fun W => iCell_any kd g none 0 0 [] W (Sl.nil _) hkw hgw
      simp only [cellD_none] at hC
      obtain ⟨p, hp⟩ : ∃ p, lba + j = p := ⟨_, rfl⟩
      have hjl : p < nn := by omega
      have hpb : p ≤ 1000000 := by omega
      replace hp := Lib.hid hp
      go_wp2_with fail
      refine wp_region_held_drew (S := fun w' => But gl wr w') (by kernel_rfl) (But.refl _ _).drew (fun hHeld => ?_)
      try dsimp only at hHeld
      have Rd := R.drew
      have bb6 := bb.trans ((Below.refl wr.heap.size wr).drew.mono hsB)
      have hs6 : B ≤ wr.drew.heap.size := hsB
      generalize wr.drew = wd at *
      try simp only [Act.put, List.setIfInBounds_toArray, List.set_cons_zero, List.set_cons_succ]
      refine wpAnyH_take (i := 0) (v := ?_) (by simp only [List.getElem?_toArray, List.getElem?_cons_zero]; rfl) (by kernel_rfl) (by kernel_rfl) (by kernel_rfl) (by intro _ _ _ h; exact h) (Or.inl ⟨by rfl, ?_⟩) hHeld ?_
      rotate_left 1
      · intro wq hSw
        try dsimp only at hSw
        go_simp
        try (with_reducible rfl)
      try simp only [Act.put, List.setIfInBounds_toArray, List.set_cons_zero, List.set_cons_succ]
      refine wpAnyH_take (i := 1) (v := ?_) (by simp only [List.getElem?_toArray, List.getElem?_cons_succ, List.getElem?_cons_zero]; rfl) (by kernel_rfl) (by kernel_rfl) (by kernel_rfl) (by intro _ _ _ h; exact h) (Or.inl ⟨by rfl, ?_⟩) hHeld ?_
      rotate_left 1
      · intro wq hSw
        try dsimp only at hSw
        have x := (hSw.cell (p := ⟨kl, 0, none⟩) l4 n4).trans v4
        go_simp
        try (with_reducible rfl)
      try simp only [Act.put, List.setIfInBounds_toArray, List.set_cons_zero, List.set_cons_succ]
      refine wpAnyH_take (i := 2) (v := ?_) (by simp only [List.getElem?_toArray, List.getElem?_cons_succ, List.getElem?_cons_zero]; rfl) (by kernel_rfl) (by kernel_rfl) (by kernel_rfl) (by intro _ _ _ h; exact h) (Or.inl ⟨by rfl, ?_⟩) hHeld ?_
      rotate_left 1
      · intro wq hSw
        try dsimp only at hSw
        go_simp
        try (with_reducible rfl)
      try simp only [Act.put, List.setIfInBounds_toArray, List.set_cons_zero, List.set_cons_succ]
      refine wpAnyH_take (i := 3) (v := (.int .i64 (p : Int))) (by simp only [List.getElem?_toArray, List.getElem?_cons_succ, List.getElem?_cons_zero]; rfl) (by kernel_rfl) (by kernel_rfl) (by kernel_rfl) (by intro _ _ _ h; exact h) (Or.inl ⟨by rfl, ?_⟩) hHeld ?_
      · intro wq hSw
        try dsimp only at hSw
        go_simp
        rw [IntWalk.i64_left]
        unfold wrap64
        have := hp.out
        omega
      try simp only [Act.put, List.setIfInBounds_toArray, List.set_cons_zero, List.set_cons_succ]
      refine wpAnyH_take (i := 4) (v := ?_) (by simp only [List.getElem?_toArray, List.getElem?_cons_succ, List.getElem?_cons_zero]; rfl) (by kernel_rfl) (by kernel_rfl) (by kernel_rfl) (by intro _ _ _ h; exact h) (Or.inl ⟨by rfl, ?_⟩) hHeld ?_
      rotate_left 1
      · intro wq hSw
        try dsimp only at hSw
        have x := (hSw.cell (p := ⟨kk, 0, none⟩) l2 n2).trans v2
        go_simp
        try (with_reducible rfl)
      try simp only [Act.put, List.setIfInBounds_toArray, List.set_cons_zero, List.set_cons_succ]
      refine wpAnyH_take (i := 5) (v := ?_) (by simp only [List.getElem?_toArray, List.getElem?_cons_succ, List.getElem?_cons_zero]; rfl) (by kernel_rfl) (by kernel_rfl) (by kernel_rfl) (by intro _ _ _ h; exact h) (Or.inl ⟨by rfl, ?_⟩) hHeld ?_
      rotate_left 1
      · intro wq hSw
        try dsimp only at hSw
        have x := (hSw.cell (p := ⟨kg, 0, none⟩) l3 n3).trans v3
        go_simp
        try (with_reducible rfl)
      try simp only [Act.put, List.setIfInBounds_toArray, List.set_cons_zero, List.set_cons_succ]
      refine wpAnyH_ready (rs := [6]) (by kernel_rfl) (by simp) ?_
      refine AllReadyH.cons (by simp only [List.getElem?_toArray, List.getElem?_cons_succ, List.getElem?_cons_zero]; rfl) (fun K hK => ?_) AllReadyH.nil
      go_simp
      refine (hC wd).mono ?_
      clear hC
      rintro e w6 ⟨rfl, b6⟩
      have bN := hHeld.below2 b6
      have R6 := Rd.under b6
      go_wp2_with fail
      refine hK.out _ _ (bN) (fun hHeld => ?_)
      clear hK K
      try dsimp only at hHeld
      clear bN
      try simp only [Act.put, List.setIfInBounds_toArray, List.set_cons_zero, List.set_cons_succ]
      refine wpAnyH_take (i := 7) (v := ?_) (by simp only [List.getElem?_toArray, List.getElem?_cons_succ, List.getElem?_cons_zero]; rfl) (by kernel_rfl) (by kernel_rfl) (by kernel_rfl) (by intro _ _ _ h; exact h) (Or.inl ⟨by rfl, ?_⟩) hHeld ?_
      rotate_left 1
      · intro wq hSw
        try dsimp only at hSw
        go_simp
        try (with_reducible rfl)
      try simp only [Act.put, List.setIfInBounds_toArray, List.set_cons_zero, List.set_cons_succ]
      refine wpAnyH_ready (rs := [8]) (by kernel_rfl) (by simp) ?_
      refine AllReadyH.cons (by simp only [List.getElem?_toArray, List.getElem?_cons_succ, List.getElem?_cons_zero]; rfl) (fun K hK => ?_) AllReadyH.nil
      obtain ⟨cs, hcs, hBk⟩ := R6.blk
      have hcs2 : p * 34 + 34 ≤ cs.size := by rw [setsF_len, hlen] at hcs; have e34 : cpE.k = 34 := rfl; rw [e34] at hcs; omega
      refine (if_pos (by rfl)).mpr (wp_storeC hBk 46 (.tmp 18) (.tmp 17) rfl (z := ⟨kd, g, z32⟩) rfl rfl rfl hcs2 szC ?_)
      have R7 := R6.set (i := p) (by rw [setsF_len]; omega) (y := ⟨kd, g, z32⟩) (vs := cpV ⟨kd, g, z32⟩) ⟨rfl, ⟨rfl, hkw, hgw⟩⟩
      have bN := hHeld.then (setL_but w6 gl (p * 34) (cpV ⟨kd, g, z32⟩))
      have bb7 := setL_below hB (cpV ⟨kd, g, z32⟩) (p * 34) (bb6.trans (b6.mono hs6))
      clear hBk hcs hcs2
      refine hK.out _ _ (bN) (fun hHeld => ?_)
      clear hK K
      try dsimp only at hHeld
      clear bN
      try simp only [Act.put, List.setIfInBounds_toArray, List.set_cons_zero, List.set_cons_succ]
      refine wpAnyH_done (by kernel_rfl) ?_ _
      have bt7 := bt.then hHeld
      have Rj : Ro cpE (fun _ => True) 46 (setL w6 gl (p * 34) (cpV ⟨kd, g, z32⟩)) gl (setsF xs lba (fun _ => ⟨kd, g, z32⟩) (j + 1)) := by rw [setsF, hp.out]; exact R7
      clear R7 R6 Rd hHeld bb6
      generalize setL w6 gl (p * 34) (cpV ⟨kd, g, z32⟩) = w8 at *
      go_wp2
      go_roundg q
      case measure => omega
      case rel => exact ⟨j + 1, by omega, by first | rfl | (simp; done) | (simp; exact wrap64_small (by omega) (by omega)), Rj, bt7, bb7⟩
    · obtain rfl : j = m := by omega
      go_wp2
      try simp only [Exit.inBlock, Exit.then]
      exact bodyPost_end (results_none rfl _ _ _) rfl ⟨rfl, R, bb⟩
set_option maxHeartbeats 2000000 in
theorem iWrite1_any (B gl : Nat) (xs : List Cp) (nn c : Nat) (kn kg kb kl : Nat) (m lba : Nat) (g : Int) (Ab : Option Addr) (nb cb : Nat) (b : List UInt8) (w : World) (R : Ro cpE (fun _ => True) 46 w gl xs) (hB : B ≤ gl) (hlen : xs.length = nn) (hc : nn ≤ c) (hcb : c ≤ 9223372036854775807)
    (hn : Blk w kn #[.int .i64 (m : Int)] 3) (hg : Blk w kg #[.int .i64 g] 3) (hb : Blk w kb #[.slice Ab nb cb] 37) (hl : Blk w kl #[.int .i64 (lba : Int)] 3) (n1 : kn ≠ gl) (n2 : kg ≠ gl) (n3 : kb ≠ gl) (n4 : kl ≠ gl)
    (hS : Sl w Ab nb cb (b.map v8)) (hSn : ∀ ad, Ab = some ad → ad.block ≠ gl) (hnb : nb ≤ 100000000) (hbm : 32 * m ≤ nb) (hfit : lba + m ≤ nn) (hnn : nn ≤ 1000000) (hgw : (Lit.int .i64 g).wf = true) :
    Calls Try.prog 35 #[.slice (some ⟨gl, 0, none⟩) nn c, .pointer (some ⟨kn, 0, none⟩), .pointer (some ⟨kg, 0, none⟩), .pointer (some ⟨kb, 0, none⟩), .pointer (some ⟨kl, 0, none⟩)] w fun e w' => e = .returned (.tuple #[]) ∧ Ro cpE (fun _ => True) 46 w' gl (setsF xs lba (cellB g b) m) ∧ Below B w w' := by
  have v0 := hn.one.1
  have hbl : b.length = nb := hS.len8
  have hcap := hS.cap
  have hbig := hS.big
  have h2w : (Lit.int .i64 2).wf = true := wf_small (by decide) (by decide)
  go_enter Try.func35, Try.ntmps35
  go_wp2_with fail
  clear v0
  go_loopg [8] m (fun q i wr => ∃ j : Nat, j + q = m ∧ i = .int .i64 (j : Int) ∧ Ro cpE (fun _ => True) 46 wr gl (setsF xs lba (cellB g b) j) ∧ But gl w wr ∧ Below B w wr)
  case atStart => exact ⟨0, by omega, rfl, R, But.refl _ _, Below.refl _ _⟩
  case round =>
    clear R
    obtain ⟨j, hj, rfl, R, bt, bb⟩ := hrel
    have hsB : B ≤ wr.heap.size := Nat.le_trans hB (Nat.le_of_lt R.lt)
    by_cases hlt : (j : Int) < (m : Int)
    · obtain ⟨q, rfl⟩ : ∃ q, gk = q + 1 := ⟨gk - 1, by omega⟩
      have v2 := (hg.but bt n2).one.1
      have v3 := (hb.but bt n3).one.1
      have v4 := (hl.but bt n4).one.1
      have l2 := (hg.but bt n2).lt
      have l3 := (hb.but bt n3).lt
      have l4 := (hl.but bt n4).lt
      have hS1 := (hS.but bt (fun _ => hSn)).from_ (k := 32 * j) (by omega)
      rw [← List.map_drop] at hS1
      have hC := fun W hh => iCell_any 2 g (cutA Ab cb (32 * j)) (nb - 32 * j) (cb - 32 * j) (b.drop (32 * j)) W hh h2w hgw
      rw [cellD_chunk (show 32 * (j + 1) ≤ b.length by omega)] at hC
      have hcut := fun W => run_cut (P := Try.prog) 37 5 un22 el22 sz5 Ab nb cb .i64 ((j : Int) * 32) (32 * j) (by omega) (by omega) W
      have hzl : (chunk b j).length = 32 := chunk_len (by omega)
      generalize cutA Ab cb (32 * j) = A1 at *
      obtain ⟨p, hp⟩ : ∃ p, lba + j = p := ⟨_, rfl⟩
      have hjl : p < nn := by omega
      have hpb : p ≤ 1000000 := by omega
      replace hp := Lib.hid hp
      have hjb : j ≤ 100000000 := by omega
      go_wp2_with fail
      refine wp_region_held_drew (S := fun w' => But gl wr w') (by kernel_rfl) (But.refl _ _).drew (fun hHeld => ?_)
      try dsimp only at hHeld
      have Rd := R.drew
      replace hS1 := hS1.drew
      have bb6 := bb.trans ((Below.refl wr.heap.size wr).drew.mono hsB)
      have hs6 : B ≤ wr.drew.heap.size := hsB
      generalize wr.drew = wd at *
      try simp only [Act.put, List.setIfInBounds_toArray, List.set_cons_zero, List.set_cons_succ]
      refine wpAnyH_take (i := 0) (v := ?_) (by simp only [List.getElem?_toArray, List.getElem?_cons_zero]; rfl) (by kernel_rfl) (by kernel_rfl) (by kernel_rfl) (by intro _ _ _ h; exact h) (Or.inl ⟨by rfl, ?_⟩) hHeld ?_
      rotate_left 1
      · intro wq hSw
        try dsimp only at hSw
        go_simp
        try (with_reducible rfl)
      try simp only [Act.put, List.setIfInBounds_toArray, List.set_cons_zero, List.set_cons_succ]
      refine wpAnyH_take (i := 1) (v := ?_) (by simp only [List.getElem?_toArray, List.getElem?_cons_succ, List.getElem?_cons_zero]; rfl) (by kernel_rfl) (by kernel_rfl) (by kernel_rfl) (by intro _ _ _ h; exact h) (Or.inl ⟨by rfl, ?_⟩) hHeld ?_
      rotate_left 1
      · intro wq hSw
        try dsimp only at hSw
        have x := (hSw.cell (p := ⟨kl, 0, none⟩) l4 n4).trans v4
        go_simp
        try (with_reducible rfl)
      try simp only [Act.put, List.setIfInBounds_toArray, List.set_cons_zero, List.set_cons_succ]
      refine wpAnyH_take (i := 2) (v := ?_) (by simp only [List.getElem?_toArray, List.getElem?_cons_succ, List.getElem?_cons_zero]; rfl) (by kernel_rfl) (by kernel_rfl) (by kernel_rfl) (by intro _ _ _ h; exact h) (Or.inl ⟨by rfl, ?_⟩) hHeld ?_
      rotate_left 1
      · intro wq hSw
        try dsimp only at hSw
        go_simp
        try (with_reducible rfl)
      try simp only [Act.put, List.setIfInBounds_toArray, List.set_cons_zero, List.set_cons_succ]
      refine wpAnyH_take (i := 3) (v := (.int .i64 (p : Int))) (by simp only [List.getElem?_toArray, List.getElem?_cons_succ, List.getElem?_cons_zero]; rfl) (by kernel_rfl) (by kernel_rfl) (by kernel_rfl) (by intro _ _ _ h; exact h) (Or.inl ⟨by rfl, ?_⟩) hHeld ?_
      · intro wq hSw
        try dsimp only at hSw
        go_simp
        rw [IntWalk.i64_left]
        unfold wrap64
        have := hp.out
        omega
      try simp only [Act.put, List.setIfInBounds_toArray, List.set_cons_zero, List.set_cons_succ]
      refine wpAnyH_take (i := 4) (v := ?_) (by simp only [List.getElem?_toArray, List.getElem?_cons_succ, List.getElem?_cons_zero]; rfl) (by kernel_rfl) (by kernel_rfl) (by kernel_rfl) (by intro _ _ _ h; exact h) (Or.inl ⟨by rfl, ?_⟩) hHeld ?_
      rotate_left 1
      · intro wq hSw
        try dsimp only at hSw
        have x := (hSw.cell (p := ⟨kg, 0, none⟩) l2 n2).trans v2
        go_simp
        try (with_reducible rfl)
      try simp only [Act.put, List.setIfInBounds_toArray, List.set_cons_zero, List.set_cons_succ]
      refine wpAnyH_take (i := 5) (v := ?_) (by simp only [List.getElem?_toArray, List.getElem?_cons_succ, List.getElem?_cons_zero]; rfl) (by kernel_rfl) (by kernel_rfl) (by kernel_rfl) (by intro _ _ _ h; exact h) (Or.inl ⟨by rfl, ?_⟩) hHeld ?_
      rotate_left 1
      · intro wq hSw
        try dsimp only at hSw
        have x := (hSw.cell (p := ⟨kb, 0, none⟩) l3 n3).trans v3
        go_simp
        try (with_reducible rfl)
      try simp only [Act.put, List.setIfInBounds_toArray, List.set_cons_zero, List.set_cons_succ]
      refine wpAnyH_take (i := 6) (v := ?_) (by simp only [List.getElem?_toArray, List.getElem?_cons_succ, List.getElem?_cons_zero]; rfl) (by kernel_rfl) (by kernel_rfl) (by kernel_rfl) (by intro _ _ _ h; exact h) (Or.inl ⟨by rfl, ?_⟩) hHeld ?_
      rotate_left 1
      · intro wq hSw
        try dsimp only at hSw
        go_simp
        try (with_reducible rfl)
      try simp only [Act.put, List.setIfInBounds_toArray, List.set_cons_zero, List.set_cons_succ]
      refine wpAnyH_take (i := 7) (v := (.int .i64 ((j : Int) * 32))) (by simp only [List.getElem?_toArray, List.getElem?_cons_succ, List.getElem?_cons_zero]; rfl) (by kernel_rfl) (by kernel_rfl) (by kernel_rfl) (by intro _ _ _ h; exact h) (Or.inl ⟨by rfl, ?_⟩) hHeld ?_
      · intro wq hSw
        try dsimp only at hSw
        go_simp
        rw [IntWalk.i64_left]
        unfold wrap64
        omega
      try simp only [Act.put, List.setIfInBounds_toArray, List.set_cons_zero, List.set_cons_succ]
      refine wpAnyH_take (i := 8) (v := ?_) (by simp only [List.getElem?_toArray, List.getElem?_cons_succ, List.getElem?_cons_zero]; rfl) (by kernel_rfl) (by kernel_rfl) (by kernel_rfl) (by intro _ _ _ h; exact h) (Or.inl ⟨by rfl, ?_⟩) hHeld ?_
      rotate_left 1
      · intro wq hSw
        try dsimp only at hSw
        go_simp
        try (with_reducible rfl)
      try simp only [Act.put, List.setIfInBounds_toArray, List.set_cons_zero, List.set_cons_succ]
      refine wpAnyH_ready (rs := [9]) (by kernel_rfl) (by simp) ?_
      refine AllReadyH.cons (by simp only [List.getElem?_toArray, List.getElem?_cons_succ, List.getElem?_cons_zero]; rfl) (fun K hK => ?_) AllReadyH.nil
      go_simp
      refine (hC wd hS1).mono ?_
      clear hC
      rintro e w6 ⟨rfl, b6⟩
      have bN := hHeld.below2 b6
      have R6 := Rd.under b6
      go_wp2_with fail
      refine hK.out _ _ (bN) (fun hHeld => ?_)
      clear hK K
      try dsimp only at hHeld
      clear bN
      try simp only [Act.put, List.setIfInBounds_toArray, List.set_cons_zero, List.set_cons_succ]
      refine wpAnyH_take (i := 10) (v := ?_) (by simp only [List.getElem?_toArray, List.getElem?_cons_succ, List.getElem?_cons_zero]; rfl) (by kernel_rfl) (by kernel_rfl) (by kernel_rfl) (by intro _ _ _ h; exact h) (Or.inl ⟨by rfl, ?_⟩) hHeld ?_
      rotate_left 1
      · intro wq hSw
        try dsimp only at hSw
        go_simp
        try (with_reducible rfl)
      try simp only [Act.put, List.setIfInBounds_toArray, List.set_cons_zero, List.set_cons_succ]
      refine wpAnyH_ready (rs := [11]) (by kernel_rfl) (by simp) ?_
      refine AllReadyH.cons (by simp only [List.getElem?_toArray, List.getElem?_cons_succ, List.getElem?_cons_zero]; rfl) (fun K hK => ?_) AllReadyH.nil
      obtain ⟨cs, hcs, hBk⟩ := R6.blk
      have hcs2 : p * 34 + 34 ≤ cs.size := by rw [setsF_len, hlen] at hcs; have e34 : cpE.k = 34 := rfl; rw [e34] at hcs; omega
      refine (if_pos (by rfl)).mpr (wp_storeC hBk 46 (.tmp 21) (.tmp 20) rfl (z := ⟨2, g, chunk b j⟩) hzl rfl rfl hcs2 szC ?_)
      have R7 := R6.set (i := p) (by rw [setsF_len]; omega) (y := ⟨2, g, chunk b j⟩) (vs := cpV ⟨2, g, chunk b j⟩) ⟨rfl, ⟨hzl, h2w, hgw⟩⟩
      have bN := hHeld.then (setL_but w6 gl (p * 34) (cpV ⟨2, g, chunk b j⟩))
      have bb7 := setL_below hB (cpV ⟨2, g, chunk b j⟩) (p * 34) (bb6.trans (b6.mono hs6))
      clear hBk hcs hcs2
      refine hK.out _ _ (bN) (fun hHeld => ?_)
      clear hK K
      try dsimp only at hHeld
      clear bN
      try simp only [Act.put, List.setIfInBounds_toArray, List.set_cons_zero, List.set_cons_succ]
      refine wpAnyH_done (by kernel_rfl) ?_ _
      have bt7 := bt.then hHeld
      have Rj : Ro cpE (fun _ => True) 46 (setL w6 gl (p * 34) (cpV ⟨2, g, chunk b j⟩)) gl (setsF xs lba (cellB g b) (j + 1)) := by rw [setsF, hp.out]; exact R7
      clear R7 R6 Rd hHeld bb6 hS1 hcut
      generalize setL w6 gl (p * 34) (cpV ⟨2, g, chunk b j⟩) = w8 at *
      go_wp2
      go_roundg q
      case measure => omega
      case rel => exact ⟨j + 1, by omega, by first | rfl | (simp; done) | (simp; exact wrap64_small (by omega) (by omega)), Rj, bt7, bb7⟩
    · obtain rfl : j = m := by omega
      go_wp2
      try simp only [Exit.inBlock, Exit.then]
      exact bodyPost_end (results_none rfl _ _ _) rfl ⟨rfl, R, bb⟩
end Go.Proofs.Ytagageidiebogaa

/-
  Contracts of image: Read's closure, done, Fill, Write, Read (written by gen_im5.py).
-/
namespace Go.Wag
open Go.RowKit
set_option linter.unusedVariables false
theorem wp_cpyR {P : Program} {o : Oper} {a : Act} {w w' : World} {K : Act → World → Prop} {Q : Exit → Act → World → Prop} {v1 v2 u : Value} (d s : Operand) (dT sT : TypeId)
    (ho : o.op = .call { callee := .builtin .copy, args := #[d, s], argTypes := #[dT, sT] }) (hd : a.eval d = v1) (hs : a.eval s = v2)
    (hr : (Builtin.copy_ #[dT, sT] o.type #[v1, v2]).run P w = .ok u w') (h : K (a.put o.dst u) w') : Oper.wp P o a w K Q := by
  unfold Oper.wp execOp
  simp only [ho, resolve, invoke, builtin, Sem.run_bind, Sem.run_pure, Result.andThen_ok, List.map_toArray, List.map_cons, List.map_nil, hs, hd, hr]
  exact h
theorem Ro.farC {F : Nat → Prop} {t : TypeId} {w : World} {g : Nat} {xs : List Cp} (h : Ro cpE F t w g xs) {a : Addr} (hne : g ≠ a.block) (u : Value) : Ro cpE F t (w.setCell a u) g xs := by
  obtain ⟨cs, hc, hB⟩ := h.blk
  refine ⟨⟨cs, hc, hB.far hne u⟩, fun i x hi => ?_⟩
  obtain ⟨vs, hr, hv⟩ := h.at_ i x hi
  exact ⟨vs, hr, fun j v hj => (cell_far w u hne).trans (hv j v hj)⟩
theorem Ro.butC {F : Nat → Prop} {t : TypeId} {w w' : World} {g k : Nat} {xs : List Cp} (h : Ro cpE F t w g xs) (hb : But k w w') (hne : g ≠ k) : Ro cpE F t w' g xs := by
  obtain ⟨cs, hc, hB⟩ := h.blk
  refine ⟨⟨cs, hc, hB.but hb hne⟩, fun i x hi => ?_⟩
  obtain ⟨vs, hr, hv⟩ := h.at_ i x hi
  exact ⟨vs, hr, fun j v hj => (hb.cell hB.lt hne).trans (hv j v hj)⟩
theorem Ro.toRsC {t : TypeId} {w : World} {g : Nat} {xs : List Cp} (h : Ro cpE (fun _ => True) t w g xs) {n c B : Nat} (hn : xs.length = n) (hc : n ≤ c) (hb : c ≤ 9223372036854775807) (hB : B ≤ g) : Rs cpE (fun x => B ≤ x) w (some ⟨g, 0, none⟩) n c xs :=
  ⟨hn, hc, hb, fun _ => ⟨g, 0, rfl, hB, h.lt, fun i x hi => by
    obtain ⟨vs, hr, hv⟩ := h.at_ i x hi
    exact ⟨vs, hr, fun j v hj => by rw [Nat.zero_add]; exact hv j v hj⟩⟩⟩
/-- What Read has copied behind j blocks. -/
def rdJ (l : List Cp) (a m j : Nat) : List UInt8 := flatB l a j ++ List.replicate (32 * m - 32 * j) 0
theorem rdJ_all (l : List Cp) (a m : Nat) : rdJ l a m m = flatB l a m := by
  rw [rdJ, Nat.sub_self]
  simp
theorem rdJ_step {l : List Cp} {a m j : Nat} {x : Cp} (hw : ∀ x ∈ l, x.d.length = 32) (hj : j < m) (hx : l[a + j]? = some x) (hl : a + j < l.length) :
    (((rdJ l a m j).map v8).take (32 * j)) ++ x.d.map v8 ++ (((rdJ l a m j).map v8).drop (32 * j + 32)) = (rdJ l a m (j + 1)).map v8 := by
  have hf := flatB_len hw (a := a) j (by omega)
  rw [rdJ, rdJ, flatB, hx, Option.getD_some, ← List.map_take, ← List.map_drop, ← List.map_append, ← List.map_append]
  congr 1
  rw [List.take_append_of_le_length (by omega), List.take_of_length_le (by omega), List.drop_append, List.drop_eq_nil_of_le (by omega), List.nil_append, List.drop_replicate]
  congr 2
  omega
end Go.Wag
namespace Go.Proofs.Ytagageidiebogaa
open Go.RowKit Go.Wag
set_option linter.unusedVariables false
set_option linter.unusedSimpArgs false
set_option maxRecDepth 20000
set_option maxHeartbeats 2000000 in
theorem iRead1_any (B gl : Nat) (xs : List Cp) (nn c : Nat) (kn kb kl : Nat) (m lba : Nat) (Ab : Value) (w : World) (R : Ro cpE (fun _ => True) 46 w gl xs) (hB : B ≤ gl) (hBk : B ≤ kb) (hlen : xs.length = nn) (hc : nn ≤ c) (hcb : c ≤ 9223372036854775807)
    (hn : Blk w kn #[.int .i64 (m : Int)] 3) (hb : Blk w kb #[Ab] 37) (hl : Blk w kl #[.int .i64 (lba : Int)] 3) (n1 : kn ≠ kb) (n2 : kl ≠ kb) (n3 : gl ≠ kb)
    (hm1 : 1 ≤ m) (hfit : lba + m ≤ nn) (hnn : nn ≤ 1000000) (hwf : ∀ x ∈ xs, x.d.length = 32) :
    Calls Try.prog 36 #[.slice (some ⟨gl, 0, none⟩) nn c, .pointer (some ⟨kn, 0, none⟩), .pointer (some ⟨kb, 0, none⟩), .pointer (some ⟨kl, 0, none⟩)] w fun e w' => e = .returned (.tuple #[]) ∧ ∃ gr M, Hid (M = 32 * m) ∧ B ≤ gr ∧ Blk w' kb #[.slice (some ⟨gr, 0, none⟩) M M] 37 ∧ Sl w' (some ⟨gr, 0, none⟩) M M ((flatB xs lba m).map v8) ∧ Ro cpE (fun _ => True) 46 w' gl xs ∧ Below B w w' := by
  obtain ⟨i0, hi, hz0, hz1, hz2⟩ := info_parts i5
  obtain ⟨M, hM⟩ : ∃ M, 32 * m = M := ⟨_, rfl⟩
  have hMb : M ≤ 32000000 := by omega
  have hmk := fun W => run_mk (P := Try.prog) 37 5 i0 (.int .u8 0) 1 Try.underlying37 hi hz0 hz1 hz2 rfl .i64 .i64 ((m : Int) * 32) ((m : Int) * 32) M M (by omega) (by omega) (by omega) (by omega) (by omega) W
  have hmm : m ≤ 1000000 := by omega
  have v0 := hn.one.1
  have v1 := hb.one
  have hkb := hb.lt
  have hgl0 := R.lt
  have a1 := (Below.refl w.heap.size w).alloc (Nat.le_refl _) (.cells (mk0 (.int .u8 0) M) 5)
  have Vr := Blk.new w (mk0 (.int .u8 0) M) 5
  have Vb := hb.alloc (.cells (mk0 (.int .u8 0) M) 5)
  have v2 := Vb.one
  replace hM := Lib.hid hM
  go_enter Try.func36, Try.ntmps36
  go_upto_region 1 with (fail)
  rw [← World.setCell_alloc_past (w := w) (.cells (mk0 (.int .u8 0) M) 5) kb 0 (.slice (some ⟨w.heap.size, 0, none⟩) M M) hkb]
  obtain ⟨gr, hgr⟩ : ∃ k, w.heap.size = k := ⟨_, rfl⟩
  try simp only [hgr] at Vr ⊢
  have hrk : kb < gr := by omega
  have hBw : B ≤ w.heap.size := by omega
  have V3 := Vb.set 0 (.slice (some ⟨gr, 0, none⟩) M M)
  have Vr3 := Vr.far (a := ⟨kb, 0, none⟩) (show gr ≠ kb by omega) (.slice (some ⟨gr, 0, none⟩) M M)
  have R3 := Ro.under R a1
  have b3 := (a1.mono hBw).setCell (p := ⟨kb, 0, none⟩) hBk (.slice (some ⟨gr, 0, none⟩) M M)
  have bt3 : But kb w ((w.alloc (.cells (mk0 (.int .u8 0) M) 5)).setCell ⟨kb, 0, none⟩ (.slice (some ⟨gr, 0, none⟩) M M)) := ((But.refl kb w).call a1).set 0 _
  have R4 : Ro cpE (fun _ => True) 46 ((w.alloc (.cells (mk0 (.int .u8 0) M) 5)).setCell ⟨kb, 0, none⟩ (.slice (some ⟨gr, 0, none⟩) M M)) gl xs := R3.farC n3 _
  simp only [List.setIfInBounds_toArray, List.set_cons_zero] at V3
  clear Vr Vb v1 v2 R3 R a1 v0
  generalize (w.alloc (.cells (mk0 (.int .u8 0) M) 5)).setCell ⟨kb, 0, none⟩ (.slice (some ⟨gr, 0, none⟩) M M) = w3 at *
  have v0 := (hn.but bt3 n1).one.1
  have hmk0 : mk0 (.int .u8 0) M = ((rdJ xs lba m 0).map v8).toArray := by
    rw [rdJ, flatB, ← hM.out]
    simp [mk0, v8]
  rw [hmk0] at Vr3
  have hgr3 := Vr3.lt
  have hkb3 := V3.lt
  clear hmk0 hmk
  go_wp2_with fail
  clear v0
  go_loopg [10] m (fun q i wr => ∃ j : Nat, j + q = m ∧ i = .int .i64 (j : Int) ∧ Blk wr gr ((rdJ xs lba m j).map v8).toArray 5 ∧ But gr w3 wr ∧ Below B w wr)
  case atStart => exact ⟨0, by omega, rfl, Vr3, But.refl _ _, b3⟩
  case round =>
    clear Vr3 b3
    obtain ⟨j, hj, rfl, V, bt, bb⟩ := hrel
    have hsB : B ≤ wr.heap.size := Nat.le_trans (Nat.le_trans hBk (Nat.le_of_lt hkb3)) bt.size
    by_cases hlt : (j : Int) < (m : Int)
    · obtain ⟨q, rfl⟩ : ∃ q, gk = q + 1 := ⟨gk - 1, by omega⟩
      have v2 := (V3.but bt (show kb ≠ gr by omega)).one.1
      have l2 := (V3.but bt (show kb ≠ gr by omega)).lt
      have V4 := (hl.but bt3 n2).but bt (by have := hl.lt; omega)
      have v4 := V4.one.1
      have l4 := V4.lt
      have hglw := R4.lt
      have Rs4 := R4.toRs (n := nn) (c := c) hlen hc hcb trivial
      obtain ⟨g', o', x, e', _, hg', hz, C0⟩ := Rs4.cp_at (show lba + j < nn by omega)
      cases e'
      obtain ⟨p, hp⟩ : ∃ p, lba + j = p := ⟨_, rfl⟩
      have hjl : p < nn := by omega
      have hpb : p ≤ 1000000 := by omega
      rw [hp, Nat.zero_add] at C0
      have hstep := rdJ_step (m := m) hwf (by omega) hz (by rw [hlen]; omega)
      replace hstep := Lib.hid hstep
      replace hp := Lib.hid hp
      have hne : gl ≠ gr := by omega
      have C1 : Cs wr gl (p * 34) x := ⟨C0.1, fun i v hv => (bt.cell hg' hne).trans (C0.2 i v hv)⟩
      obtain ⟨o, ho⟩ : ∃ o, 32 * j = o := ⟨_, rfl⟩
      obtain ⟨r, hr⟩ : ∃ r, M - o = r := ⟨_, rfl⟩
      have hcut : ∀ W : World, (Instr.slice 37 (.slice (some ⟨gr, 0, none⟩) M M) (some (.int .i64 ((j : Int) * 32))) none none).run Try.prog W = .ok (.slice (some ⟨gr, o, none⟩) r r) W := fun W => by
        have := run_cut (P := Try.prog) 37 5 un22 el22 sz5 (some ⟨gr, 0, none⟩) M M .i64 ((j : Int) * 32) o (by omega) (by have := hM.out; omega) W
        rw [this, cutA, if_neg (by have := hM.out; omega), Option.map_some, addr_add, Nat.zero_add, hr]
      have hr32 : 32 ≤ r := by have := hM.out; omega
      have hcp := fun (W : World) (hV : Blk W gr ((rdJ xs lba m j).map v8).toArray 5) (hC : Cs W gl (p * 34) x) => run_copy_row (P := Try.prog) W 37 37 3 5 gr o r r ⟨gl, p * 34 + 2, none⟩ 32 32 _ 5 (x.d.map v8) un23 sz8 hV (by rw [List.length_map, hC.1.len]; show 32 = min 32 r; omega) (fun i v hv => by rw [addr_add, Nat.add_assoc]; exact hC.2 (2 + i) v (by rw [cpV, show 2 + i = i + 1 + 1 by omega]; exact hv)) (by rw [List.length_map, hC.1.len, List.size_toArray, List.length_map, rdJ, List.length_append, List.length_replicate, flatB_len hwf j (by rw [hlen]; omega)]; omega) (oneCell8 _)
      replace ho := Lib.hid ho
      replace hr := Lib.hid hr
      have hjb : j ≤ 1000000 := by omega
      go_wp2_with fail
      refine wp_region_held_drew (S := fun w' => But gr wr w') (by kernel_rfl) (But.refl _ _).drew (fun hHeld => ?_)
      try dsimp only at hHeld
      have Vd := V.drew
      have bbd := bb.trans ((Below.refl wr.heap.size wr).drew.mono hsB)
      have C1d := C1.below (Below.refl wr.heap.size wr).drew (by have := bt.size; omega)
      generalize wr.drew = wd at *
      try simp only [Act.put, List.setIfInBounds_toArray, List.set_cons_zero, List.set_cons_succ]
      refine wpAnyH_take (i := 0) (v := ?_) (by simp only [List.getElem?_toArray, List.getElem?_cons_zero]; rfl) (by kernel_rfl) (by kernel_rfl) (by kernel_rfl) (by intro _ _ _ h; exact h) (Or.inl ⟨by rfl, ?_⟩) hHeld ?_
      rotate_left 1
      · intro wq hSw
        try dsimp only at hSw
        have x := (hSw.cell (p := ⟨kb, 0, none⟩) l2 (show kb ≠ gr by omega)).trans v2
        go_simp
        try (with_reducible rfl)
      try simp only [Act.put, List.setIfInBounds_toArray, List.set_cons_zero, List.set_cons_succ]
      refine wpAnyH_take (i := 1) (v := ?_) (by simp only [List.getElem?_toArray, List.getElem?_cons_succ, List.getElem?_cons_zero]; rfl) (by kernel_rfl) (by kernel_rfl) (by kernel_rfl) (by intro _ _ _ h; exact h) (Or.inl ⟨by rfl, ?_⟩) hHeld ?_
      rotate_left 1
      · intro wq hSw
        try dsimp only at hSw
        go_simp
        try (with_reducible rfl)
      try simp only [Act.put, List.setIfInBounds_toArray, List.set_cons_zero, List.set_cons_succ]
      refine wpAnyH_take (i := 2) (v := (.int .i64 ((j : Int) * 32))) (by simp only [List.getElem?_toArray, List.getElem?_cons_succ, List.getElem?_cons_zero]; rfl) (by kernel_rfl) (by kernel_rfl) (by kernel_rfl) (by intro _ _ _ h; exact h) (Or.inl ⟨by rfl, ?_⟩) hHeld ?_
      · intro wq hSw
        try dsimp only at hSw
        go_simp
        rw [IntWalk.i64_left]
        unfold wrap64
        omega
      try simp only [Act.put, List.setIfInBounds_toArray, List.set_cons_zero, List.set_cons_succ]
      refine wpAnyH_take (i := 3) (v := ?_) (by simp only [List.getElem?_toArray, List.getElem?_cons_succ, List.getElem?_cons_zero]; rfl) (by kernel_rfl) (by kernel_rfl) (by kernel_rfl) (by intro _ _ _ h; exact h) (Or.inl ⟨by rfl, ?_⟩) hHeld ?_
      rotate_left 1
      · intro wq hSw
        try dsimp only at hSw
        go_simp
        try (with_reducible rfl)
      try simp only [Act.put, List.setIfInBounds_toArray, List.set_cons_zero, List.set_cons_succ]
      refine wpAnyH_take (i := 4) (v := ?_) (by simp only [List.getElem?_toArray, List.getElem?_cons_succ, List.getElem?_cons_zero]; rfl) (by kernel_rfl) (by kernel_rfl) (by kernel_rfl) (by intro _ _ _ h; exact h) (Or.inl ⟨by rfl, ?_⟩) hHeld ?_
      rotate_left 1
      · intro wq hSw
        try dsimp only at hSw
        go_simp
        try (with_reducible rfl)
      try simp only [Act.put, List.setIfInBounds_toArray, List.set_cons_zero, List.set_cons_succ]
      refine wpAnyH_take (i := 5) (v := ?_) (by simp only [List.getElem?_toArray, List.getElem?_cons_succ, List.getElem?_cons_zero]; rfl) (by kernel_rfl) (by kernel_rfl) (by kernel_rfl) (by intro _ _ _ h; exact h) (Or.inl ⟨by rfl, ?_⟩) hHeld ?_
      rotate_left 1
      · intro wq hSw
        try dsimp only at hSw
        have x := (hSw.cell (p := ⟨kl, 0, none⟩) l4 (show kl ≠ gr by have := hl.lt; omega)).trans v4
        go_simp
        try (with_reducible rfl)
      try simp only [Act.put, List.setIfInBounds_toArray, List.set_cons_zero, List.set_cons_succ]
      refine wpAnyH_take (i := 6) (v := ?_) (by simp only [List.getElem?_toArray, List.getElem?_cons_succ, List.getElem?_cons_zero]; rfl) (by kernel_rfl) (by kernel_rfl) (by kernel_rfl) (by intro _ _ _ h; exact h) (Or.inl ⟨by rfl, ?_⟩) hHeld ?_
      rotate_left 1
      · intro wq hSw
        try dsimp only at hSw
        go_simp
        try (with_reducible rfl)
      try simp only [Act.put, List.setIfInBounds_toArray, List.set_cons_zero, List.set_cons_succ]
      refine wpAnyH_take (i := 7) (v := (.int .i64 (p : Int))) (by simp only [List.getElem?_toArray, List.getElem?_cons_succ, List.getElem?_cons_zero]; rfl) (by kernel_rfl) (by kernel_rfl) (by kernel_rfl) (by intro _ _ _ h; exact h) (Or.inl ⟨by rfl, ?_⟩) hHeld ?_
      · intro wq hSw
        try dsimp only at hSw
        go_simp
        rw [IntWalk.i64_left]
        unfold wrap64
        have := hp.out
        omega
      try simp only [Act.put, List.setIfInBounds_toArray, List.set_cons_zero, List.set_cons_succ]
      refine wpAnyH_take (i := 8) (v := ?_) (by simp only [List.getElem?_toArray, List.getElem?_cons_succ, List.getElem?_cons_zero]; rfl) (by kernel_rfl) (by kernel_rfl) (by kernel_rfl) (by intro _ _ _ h; exact h) (Or.inl ⟨by rfl, ?_⟩) hHeld ?_
      rotate_left 1
      · intro wq hSw
        try dsimp only at hSw
        go_simp
        try (with_reducible rfl)
      try simp only [Act.put, List.setIfInBounds_toArray, List.set_cons_zero, List.set_cons_succ]
      refine wpAnyH_take (i := 9) (v := ?_) (by simp only [List.getElem?_toArray, List.getElem?_cons_succ, List.getElem?_cons_zero]; rfl) (by kernel_rfl) (by kernel_rfl) (by kernel_rfl) (by intro _ _ _ h; exact h) (Or.inl ⟨by rfl, ?_⟩) hHeld ?_
      rotate_left 1
      · intro wq hSw
        try dsimp only at hSw
        go_simp
        try (with_reducible rfl)
      try simp only [Act.put, List.setIfInBounds_toArray, List.set_cons_zero, List.set_cons_succ]
      refine wpAnyH_take (i := 10) (v := ?_) (by simp only [List.getElem?_toArray, List.getElem?_cons_succ, List.getElem?_cons_zero]; rfl) (by kernel_rfl) (by kernel_rfl) (by kernel_rfl) (by intro _ _ _ h; exact h) (Or.inl ⟨by rfl, ?_⟩) hHeld ?_
      rotate_left 1
      · intro wq hSw
        try dsimp only at hSw
        go_simp
        try (with_reducible rfl)
      try simp only [Act.put, List.setIfInBounds_toArray, List.set_cons_zero, List.set_cons_succ]
      refine wpAnyH_ready (rs := [11]) (by kernel_rfl) (by simp) ?_
      refine AllReadyH.cons (by simp only [List.getElem?_toArray, List.getElem?_cons_succ, List.getElem?_cons_zero]; rfl) (fun K hK => ?_) AllReadyH.nil
      have hr2 := hcp wd Vd C1d
      rw [List.length_map, C1d.1.len] at hr2
      refine (if_pos (by rfl)).mpr (wp_cpyR (.tmp 16) (.tmp 23) 37 37 rfl rfl rfl hr2 ?_)
      have e1 : ((((rdJ xs lba m j).map v8).toArray.toList.take o) ++ x.d.map v8 ++ (((rdJ xs lba m j).map v8).toArray.toList.drop (o + 32))) = (rdJ xs lba m (j + 1)).map v8 := by rw [← ho.out]; exact hstep.out
      rw [e1]
      have V9 := Vd.row ((rdJ xs lba m (j + 1)).map v8).toArray
      have bN : But gr wr (wd.setRow gr ((rdJ xs lba m (j + 1)).map v8).toArray) := hHeld.then ⟨by rw [setRow_size]; exact Nat.le_refl _, fun i _ hne => setRow_other _ _ _ _ hne⟩
      have bb9 := below_setRow bbd (show B ≤ gr by omega) ((rdJ xs lba m (j + 1)).map v8).toArray
      clear hr2 e1
      refine hK.out _ _ (bN) (fun hHeld => ?_)
      clear hK K
      try dsimp only at hHeld
      clear bN
      try simp only [Act.put, List.setIfInBounds_toArray, List.set_cons_zero, List.set_cons_succ]
      refine wpAnyH_done (by kernel_rfl) ?_ _
      have bt9 := bt.then hHeld
      clear hcut hcp Vd C1d C1 hHeld
      generalize wd.setRow gr ((rdJ xs lba m (j + 1)).map v8).toArray = w9 at *
      go_wp2
      go_roundg q
      case measure => omega
      case rel => exact ⟨j + 1, by omega, by first | rfl | (simp; done) | (simp; exact wrap64_small (by omega) (by omega)), V9, bt9, bb9⟩
    · obtain rfl : j = m := by omega
      rw [rdJ_all] at V
      have hfl := flatB_len hwf (a := lba) j (by rw [hlen]; omega)
      have hMl : ((flatB xs lba j).map v8).length = M := by rw [List.length_map, hfl]; exact hM.out
      have SM : Sl wr (some ⟨gr, 0, none⟩) M M ((flatB xs lba j).map v8) := ⟨hMl, Nat.le_refl _, by omega, fun _ => ⟨_, rfl, V.lt, fun i u hu => by rw [addr_add, Nat.zero_add, V.cell]; simpa using hu⟩⟩
      have Vb9 := V3.but bt (show kb ≠ gr by omega)
      go_wp2
      try simp only [Exit.inBlock, Exit.then]
      exact bodyPost_end (results_none rfl _ _ _) rfl ⟨rfl, gr, M, hM.out.symm, by omega, Vb9, SM, R4.butC bt (by omega), bb⟩
/-- What done answers. -/
def DonePost (B : Nat) (R : World → Prop) (w : World) (ys : List Cp) (er : Int) (e : Ending) (w' : World) : Prop := ∃ A n c, Hid (ys.length = n) ∧ e = .returned (.tuple #[.slice A n c, .int .i64 er]) ∧ Rs cpE (fun x => w.heap.size ≤ x) w' A n c ys ∧ Below B w w' ∧ (er = 0 → R w')
set_option maxHeartbeats 2000000 in
theorem iDone_any {F : Nat → Prop} (B : Nat) (f : FuncId) (cap : Array Value) (may : Bool) (R : World → Prop) (xs ys : List Cp) (A : Option Addr) (n c : Nat) (w : World) (h : Rs cpE F w A n c xs) (hB : B ≤ w.heap.size) (hn : n ≤ 1000000)
    (hent : ∀ u w, (callFunc f (#[u] ++ cap)).run Try.prog w = .ok (.enter f (#[u] ++ cap)) w) (hyl : ichk xs = true → may = true → ys.length = n)
    (hf : ichk xs = true → may = true → ∀ W gl c', w.heap.size ≤ gl → Below w.heap.size w W → n ≤ c' → c' ≤ 9223372036854775807 → Ro cpE (fun _ => True) 46 W gl xs → Calls Try.prog f (#[.slice (some ⟨gl, 0, none⟩) n c'] ++ cap) W fun e W2 => e = .returned (.tuple #[]) ∧ Ro cpE (fun _ => True) 46 W2 gl ys ∧ Below B W W2 ∧ R W2) :
    Calls Try.prog 33 #[.slice A n c, .bool may, .func (.func f) #[] cap] w (DonePost B R w (doneL xs may ys) (doneE xs may)) := by
  have HN : Hid (xs.length = n) := h.len
  have hC := iCheck_any xs A n c w h
  unfold doneL doneE
  cases hi : ichk xs
  · rw [hi] at hC
    rw [if_neg (by simp), if_neg (by simp)]
    go_enter Try.func33, Try.ntmps33
    go_wp2_with fail
    refine hC.mono ?_
    rintro e w2 ⟨rfl, b2⟩
    go_wp2
    go_ret2
    exact ⟨none, 0, 0, rfl, rfl, Rs.nil _ _ _, b2.mono hB, fun hh => absurd hh (by decide)⟩
  rw [hi] at hC
  rw [if_pos rfl, if_pos rfl]
  have hn0 : 0 < n := by have := (ichk_iff.1 hi).1; have := HN.out; omega
  cases may
  · rw [if_neg (by simp), if_neg (by simp)]
    go_enter Try.func33, Try.ntmps33
    go_wp2_with fail
    refine hC.mono ?_
    clear hC
    rintro e w2 ⟨rfl, b2⟩
    go_wp2_with fail
    refine (iClone_any xs A n c w2 (h.below b2) hn0 (by omega)).mono ?_
    rintro e w3 ⟨A3, n3, c3, hl3, rfl, R3, b3⟩
    have hs2 := b2.size
    have bb := b2.trans (b3.mono b2.size)
    go_wp2
    go_ret2
    exact ⟨A3, n3, c3, hl3, rfl, (rq_any (F' := fun x => w.heap.size ≤ x) R3).toRs (fun z _ hz => by omega), bb.mono hB, fun hh => absurd hh (by decide)⟩
  · rw [if_pos rfl, if_pos rfl]
    have hf' := Lib.hid (hf hi rfl)
    have hyl' := Lib.hid (hyl hi rfl)
    clear hf hyl
    go_enter Try.func33, Try.ntmps33
    go_wp2_with fail
    refine hC.mono ?_
    clear hC
    rintro e w2 ⟨rfl, b2⟩
    go_wp2_with fail
    refine (iClone_any xs A n c w2 (h.below b2) hn0 (by omega)).mono ?_
    rintro e w3 ⟨A3, n3, c3, hl3, rfl, R3, b3⟩
    have hs2 := b2.size
    have bb := b2.trans (b3.mono b2.size)
    obtain rfl : n = n3 := HN.out.symm.trans hl3.out
    obtain ⟨g, rfl, hBg, hnc, hcb, Ro3⟩ := R3.opened hn0
    have hC := hf'.out w3 g c3 (by omega) bb hnc hcb Ro3
    clear R3
    go_wp2_with fail
    refine hC.mono ?_
    clear hC
    rintro e w4 ⟨rfl, R4, b4, hR⟩
    have hbw : B ≤ w3.heap.size := Nat.le_trans hB bb.size
    go_wp2
    go_ret2
    exact ⟨some ⟨g, 0, none⟩, n, c3, hyl', rfl, (R4.imp (F' := fun x => True) (fun _ _ _ => trivial)).toRsC hyl'.out hnc hcb (by omega), (bb.mono hB).trans b4, fun _ => hR⟩
end Go.Proofs.Ytagageidiebogaa
