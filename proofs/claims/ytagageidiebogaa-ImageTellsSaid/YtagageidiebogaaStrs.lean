/-
  A slice of structs that reads as a list, whatever its elements are ('Rs'), and a row of structs of one's own that is appended to ('Rq'). No program is named here.
-/
import Derived.Test.YtagageidiebogaaDevArgs
import Derived.Maps.AppendAt
namespace Go.Wag
open Go.RowKit
set_option linter.unusedVariables false
set_option maxRecDepth 20000

/-- What elements of a slice are: how many cells, and how they read, in blocks that meet F. -/
structure Elt (α : Type) where
  k : Nat
  rd : (Nat → Prop) → World → List Value → α → Prop
  pos : 0 < k
  len : ∀ {F : Nat → Prop} {w : World} {vs : List Value} {x : α}, rd F w vs x → vs.length = k
  keep : ∀ {F : Nat → Prop} {w w' : World} {vs : List Value} {x : α}, rd F w vs x → w.heap.size ≤ w'.heap.size → (∀ p : Addr, p.block < w.heap.size → F p.block → w'.cell? p = w.cell? p) → rd F w' vs x
  imp : ∀ {F F' : Nat → Prop} {w : World} {vs : List Value} {x : α}, rd F w vs x → (∀ b, b < w.heap.size → F b → F' b) → rd F' w vs x

/-- '.slice A n c' reads as the elements xs, all of it in blocks that meet F. -/
structure Rs {α : Type} (E : Elt α) (F : Nat → Prop) (w : World) (A : Option Addr) (n c : Nat) (xs : List α) : Prop where
  len : xs.length = n
  cap : n ≤ c
  big : c ≤ 9223372036854775807
  cells : 0 < n → ∃ g o, A = some ⟨g, o, none⟩ ∧ F g ∧ g < w.heap.size ∧ ∀ i x, xs[i]? = some x → ∃ vs, E.rd F w vs x ∧ ∀ j v, vs[j]? = some v → w.cell? ⟨g, o + i * E.k + j, none⟩ = some v

section
variable {α : Type} {E : Elt α} {F : Nat → Prop} {w w' : World} {A : Option Addr} {n c : Nat} {xs : List α}
theorem Elt.below {vs : List Value} {x : α} (h : E.rd F w vs x) (hb : Below w.heap.size w w') : E.rd F w' vs x := E.keep h hb.size fun _ hp _ => hb.cell hp
theorem Rs.keep (h : Rs E F w A n c xs) (hs : w.heap.size ≤ w'.heap.size) (hk : ∀ p : Addr, p.block < w.heap.size → F p.block → w'.cell? p = w.cell? p) : Rs E F w' A n c xs :=
  ⟨h.len, h.cap, h.big, fun hn => by
    obtain ⟨g, o, e, hF, hg, hc⟩ := h.cells hn
    refine ⟨g, o, e, hF, by omega, fun i x hx => ?_⟩
    obtain ⟨vs, hr, hv⟩ := hc i x hx
    exact ⟨vs, E.keep hr hs hk, fun j v hj => (hk ⟨g, _, none⟩ hg hF).trans (hv j v hj)⟩⟩
theorem Rs.below (h : Rs E F w A n c xs) (hb : Below w.heap.size w w') : Rs E F w' A n c xs := h.keep hb.size fun _ hp _ => hb.cell hp
theorem Rs.alloc (h : Rs E F w A n c xs) (o : Obj) : Rs E F (w.alloc o) A n c xs := h.below ((Below.refl _ _).alloc (Nat.le_refl _) o)
theorem Rs.drew (h : Rs E F w A n c xs) : Rs E F w.drew A n c xs := h.below (Below.refl _ _).drew
theorem Rs.far (h : Rs E F w A n c xs) {a : Addr} (ha : ¬ F a.block) (u : Value) : Rs E F (w.setCell a u) A n c xs :=
  h.keep (by simp [World.setCell]) fun p _ hF => cell_far w u (fun e => ha (e ▸ hF))
theorem Rs.imp {F' : Nat → Prop} (h : Rs E F w A n c xs) (hF : ∀ b, b < w.heap.size → F b → F' b) : Rs E F' w A n c xs :=
  ⟨h.len, h.cap, h.big, fun hn => by
    obtain ⟨g, o, e, hG, hg, hc⟩ := h.cells hn
    refine ⟨g, o, e, hF g hg hG, hg, fun i x hx => ?_⟩
    obtain ⟨vs, hr, hv⟩ := hc i x hx
    exact ⟨vs, E.imp hr hF, hv⟩⟩
theorem Rs.nil (E : Elt α) (F : Nat → Prop) (w : World) : Rs E F w none 0 0 [] := ⟨rfl, Nat.le_refl _, by omega, fun h => absurd h (by omega)⟩
/-- The element at i. -/
theorem Rs.at_ (h : Rs E F w A n c xs) {i : Nat} (hi : i < n) : ∃ g o x vs, A = some ⟨g, o, none⟩ ∧ F g ∧ g < w.heap.size ∧ xs[i]? = some x ∧ E.rd F w vs x ∧ ∀ j v, vs[j]? = some v → w.cell? ⟨g, o + i * E.k + j, none⟩ = some v := by
  obtain ⟨g, o, e, hF, hg, hc⟩ := h.cells (by omega)
  have hl : i < xs.length := by have := h.len; omega
  obtain ⟨vs, hr, hv⟩ := hc i _ (List.getElem?_eq_getElem hl)
  exact ⟨g, o, xs[i], vs, e, hF, hg, List.getElem?_eq_getElem hl, hr, hv⟩
/-- 's[:m]'. -/
theorem Rs.upto (h : Rs E F w A n c xs) {m : Nat} (hm : m ≤ n) : Rs E F w A m c (xs.take m) := by
  refine ⟨by rw [List.length_take, h.len]; omega, by have := h.cap; omega, h.big, fun hn => ?_⟩
  obtain ⟨g, o, e, hF, hg, hc⟩ := h.cells (by omega)
  refine ⟨g, o, e, hF, hg, fun i x hx => hc i x ?_⟩
  rw [List.getElem?_take] at hx
  split at hx
  · exact hx
  · cases hx
end

/-- A row of structs that is appended to: its cells in a block of one's own (from B on), what they reach in others that meet F. -/
structure Rq {α : Type} (E : Elt α) (F : Nat → Prop) (B : Nat) (t : TypeId) (w : World) (A : Option Addr) (n c : Nat) (xs : List α) : Prop where
  len : xs.length = n
  row : ∃ cs, w.ownsRow B t E.k (.slice A n c) n cs ∧ ∀ i x, xs[i]? = some x → ∃ vs, E.rd (fun b => F b ∧ (Value.slice A n c).ownBlock ≠ some b) w vs x ∧ ∀ j v, vs[j]? = some v → cs[i * E.k + j]? = some v

section
variable {α : Type} {E : Elt α} {F : Nat → Prop} {B : Nat} {t : TypeId} {w w' : World} {A : Option Addr} {n c : Nat} {xs : List α}
theorem Rq.nil (E : Elt α) (F : Nat → Prop) (B : Nat) (t : TypeId) (w : World) : Rq E F B t w none 0 0 [] := ⟨rfl, [], World.ownsRow_nil _ _ _ _, fun i z h => by simp at h⟩
theorem Rq.under (h : Rq E F B t w A n c xs) (hb : Below w.heap.size w w') : Rq E F B t w' A n c xs := by
  obtain ⟨cs, hx, hz⟩ := h.row
  refine ⟨h.len, cs, hx.kept (only_of hb none) (by cases hv : Value.ownBlock (.slice A n c) <;> simp), fun i x hi => ?_⟩
  obtain ⟨vs, hr, hv⟩ := hz i x hi
  exact ⟨vs, Elt.below hr hb, hv⟩
theorem Rq.below (h : Rq E F B t w A n c xs) (hb : Below w.heap.size w w') : Rq E F B t w' A n c xs := h.under hb
theorem Rq.drew (h : Rq E F B t w A n c xs) : Rq E F B t w.drew A n c xs := h.under (Below.refl _ _).drew
theorem Rq.alloc (h : Rq E F B t w A n c xs) (o : Obj) : Rq E F B t (w.alloc o) A n c xs := h.under ((Below.refl _ _).alloc (Nat.le_refl _) o)
theorem Rq.lt (h : Rq E F B t w A n c xs) : ∀ b, (Value.slice A n c).ownBlock = some b → B ≤ b ∧ b < w.heap.size := fun b hb => by
  obtain ⟨xs, hx, _⟩ := h.row
  exact hx.lt b hb
/-- Growth of another row, or a store elsewhere. -/
theorem Rq.grown (h : Rq E F B t w A n c xs) {row : Option Nat} (hg : w.grownBy w' row) (ho : ∀ b, (Value.slice A n c).ownBlock = some b → row ≠ some b) (hF : ∀ b, b < w.heap.size → F b → row ≠ some b) : Rq E F B t w' A n c xs := by
  obtain ⟨cs, hx, hz⟩ := h.row
  refine ⟨h.len, cs, hx.kept hg ?_, fun i x hi => ?_⟩
  · cases hv : Value.ownBlock (.slice A n c) with
    | none => exact .inl rfl
    | some b => exact .inr (fun e => ho b hv e.symm)
  · obtain ⟨vs, hr, hv⟩ := hz i x hi
    exact ⟨vs, E.keep hr hg.size (fun p hp hFp => World.cell?_of_block (hg.block _ hp (fun e => hF _ hp hFp.1 e.symm))), hv⟩
theorem Rq.imp {F' : Nat → Prop} (h : Rq E F B t w A n c xs) (hF : ∀ b, b < w.heap.size → F b → F' b) : Rq E F' B t w A n c xs := by
  obtain ⟨cs, hx, hz⟩ := h.row
  refine ⟨h.len, cs, hx, fun i x hi => ?_⟩
  obtain ⟨vs, hr, hv⟩ := hz i x hi
  exact ⟨vs, E.imp hr (fun b hb hh => ⟨hF b hb hh.1, hh.2⟩), hv⟩
/-- One element more. -/
theorem Rq.app {P : Program} (h : Rq E F B t w A n c xs) {T ty : TypeId} {i0 : TypeInfo} {z : Value} {bytes : Nat} (hT : P.underlying T = some (.slice t)) (hi : P.info? t = some i0) (hz : i0.zero = some z) (hsz : i0.size = E.k) (hby : i0.bytes = bytes) (hzs : z.cells.size = E.k)
    (hB : B ≤ w.heap.size) (hn : (n + 1) * bytes ≤ 140737488355328) (hn2 : n + 1 ≤ 9223372036854775807) {x : α} {vs : List Value} {s : Nat} {ts : TypeId} (hx : E.rd (fun b => F b ∧ (Value.slice A n c).ownBlock ≠ some b) w vs x) (h1 : ∀ u ∈ vs, u.oneCell' = true) (Bs : Blk w s vs.toArray ts) :
    ∃ A' c' w', (Builtin.append_ #[T, T] ty #[.slice A n c, .slice (some ⟨s, 0, none⟩) 1 1]).run P w = .ok (.slice A' (n + 1) c') w' ∧ Rq E F B t w' A' (n + 1) c' (xs ++ [x]) ∧ w.grownBy w' (Value.slice A n c).ownBlock ∧
      ((Value.slice A' (n + 1) c').ownBlock = (Value.slice A n c).ownBlock ∨ (Value.slice A' (n + 1) c').ownBlock = some w.heap.size) := by
  obtain ⟨cs, hc, hz0⟩ := h.row
  have hvl := E.len hx
  obtain ⟨v', w', hr, h2, h3, _, h5⟩ := run_append_own_at (P := P) w B T ty t i0 z E.k bytes hT hi hz hsz hby hzs E.pos (.slice A n c) n cs hc ⟨s, 0, none⟩ 1 1 vs (by omega)
    (fun j u hu => by
      have e : ((⟨s, 0, none⟩ : Addr).add j) = ⟨s, j, none⟩ := by unfold Addr.add; split <;> simp_all
      rw [e, Bs.cell]
      simpa using hu) h1 (by simp only [maxLen]; omega) hn hB
  obtain ⟨A', c', rfl⟩ := own_form h2
  have hxl : cs.length = n * E.k := hc.1
  have hl := h.len
  have step : ∀ {ys : List Value} {y : α}, E.rd (fun b => F b ∧ (Value.slice A n c).ownBlock ≠ some b) w ys y → E.rd (fun b => F b ∧ (Value.slice A' (n + 1) c').ownBlock ≠ some b) w' ys y := fun {ys y} hy => by
    have k1 : E.rd (fun b => F b ∧ (Value.slice A n c).ownBlock ≠ some b ∧ (Value.slice A' (n + 1) c').ownBlock ≠ some b) w ys y := E.imp hy (fun b hb hh => ⟨hh.1, hh.2, by
      rcases h5 with e | e
      · rw [e]; exact hh.2
      · rw [e]; intro e2; have := Option.some.inj e2; omega⟩)
    exact E.imp (E.keep k1 h3.size (fun p hp hF => World.cell?_of_block (h3.block _ hp (fun e => hF.2.1 e.symm)))) (fun b _ hh => ⟨hh.1, hh.2.2⟩)
  refine ⟨A', c', w', hr, ⟨by simp [hl], _, h2, fun i y hi => ?_⟩, h3, h5⟩
  by_cases hin : i < n
  · rw [List.getElem?_append_left (by omega)] at hi
    obtain ⟨ys, hy, hv⟩ := hz0 i y hi
    refine ⟨ys, step hy, fun j v hj => ?_⟩
    have hjl := (List.getElem?_eq_some_iff.1 hj).1
    rw [E.len hy] at hjl
    have : i * E.k + j < n * E.k := by
      have : (i + 1) * E.k ≤ n * E.k := Nat.mul_le_mul_right _ hin
      rw [Nat.add_mul] at this
      omega
    rw [List.getElem?_append_left (by omega)]
    exact hv j v hj
  · have hi2 := (List.getElem?_eq_some_iff.1 hi).1
    obtain rfl : i = n := by simp at hi2; omega
    rw [List.getElem?_append_right (by omega), hl, Nat.sub_self] at hi
    cases hi
    refine ⟨vs, step hx, fun j v hj => ?_⟩
    rw [List.getElem?_append_right (by omega), hxl, Nat.add_sub_cancel_left]
    exact hj
theorem Rq.toRs (h : Rq E F B t w A n c xs) (hF : ∀ b, b < w.heap.size → B ≤ b → F b) : Rs E F w A n c xs := by
  obtain ⟨cs, hx, hz⟩ := id h.row
  rcases hx.2 with ⟨hv, rfl⟩ | ⟨g, cap, cur, hv, hB, hg, hnc, hm, _⟩
  · obtain ⟨rfl, -, rfl⟩ : A = none ∧ 0 = 0 ∧ c = 0 := by simpa using hv
    exact ⟨h.len, Nat.le_refl _, by omega, fun h => absurd h (by omega)⟩
  · obtain ⟨rfl, rfl⟩ : A = some ⟨g, 0, none⟩ ∧ c = cap := by simpa using hv
    have hgl := (Array.getElem?_eq_some_iff.1 hg).1
    refine ⟨h.len, hnc, by simpa [maxLen] using hm, fun _ => ⟨g, 0, rfl, hF g hgl hB, hgl, fun i x hi => ?_⟩⟩
    obtain ⟨vs, hr, hv⟩ := hz i x hi
    refine ⟨vs, E.imp hr (fun b _ hb => hb.1), fun j v hj => ?_⟩
    have e : ∀ j, ((⟨g, 0, none⟩ : Addr).add j) = ⟨g, j, none⟩ := fun j => by unfold Addr.add; split <;> simp_all
    rw [Nat.zero_add, ← e]
    exact hx.cells (g := g) rfl _ _ (hv j v hj)
end

/-- 'append' in a plain region, by its run (the walk stops behind it). -/
theorem wpList_run {P : Program} {ops : Array Oper} {rest : List Oper} {o : Oper} {a : Act} {w w' : World} {Q : Exit → Act → World → Prop} {v u : Value} {A : Option Addr} {m c : Nat} (hgd : o.guard = none) (s x : Operand) (t : TypeId)
    (ho : o.op = .call { callee := .builtin .append, args := #[s, x], argTypes := #[t, t] }) (hs : a.eval s = v) (hx : a.eval x = .slice A m c)
    (hr : (Builtin.append_ #[t, t] o.type #[v, .slice A m c]).run P w = .ok u w') (hgo : True → wpList P ops Q rest (a.put o.dst u) w') : wpList P ops Q (o :: rest) a w :=
  wpList_plain hgd fun K hK => wp_app s x t ho hs hx hr (hK _ _ (hgo trivial))
end Go.Wag
