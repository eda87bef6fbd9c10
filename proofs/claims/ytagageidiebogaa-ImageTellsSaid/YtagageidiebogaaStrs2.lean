/-
  A row of structs in one block, whose members are stored anew ('Ro'). No program is named here.
-/
import Derived.Test.YtagageidiebogaaStrs
namespace Go.Wag
open Go.RowKit
set_option linter.unusedVariables false
set_option maxRecDepth 20000

/-- Cells one behind the other, stored. -/
def setL (w : World) (g : Nat) : Nat → List Value → World
  | _, [] => w
  | o, v :: vs => setL (w.setCell ⟨g, o, none⟩ v) g (o + 1) vs
theorem setL_size (w : World) (g o : Nat) (vs : List Value) : (setL w g o vs).heap.size = w.heap.size := by
  induction vs generalizing w o with
  | nil => rfl
  | cons v vs ih => rw [setL, ih]; simp [World.setCell]
theorem setL_but (w : World) (g : Nat) : ∀ (o : Nat) (vs : List Value), But g w (setL w g o vs) := by
  intro o vs
  induction vs generalizing w o with
  | nil => exact But.refl _ _
  | cons v vs ih =>
    have h1 := (But.refl g w).set o v
    have h2 := ih (w.setCell ⟨g, o, none⟩ v) (o + 1)
    exact ⟨Nat.le_trans h1.size h2.size, fun k hk hne => (h2.block k (Nat.lt_of_lt_of_le hk h1.size) hne).trans (h1.block k hk hne)⟩
theorem setL_blk {w : World} {g : Nat} {t : TypeId} (o : Nat) (vs : List Value) {cs : Array Value} (h : Blk w g cs t) : ∃ cs', cs'.size = cs.size ∧ Blk (setL w g o vs) g cs' t := by
  induction vs generalizing w o cs with
  | nil => exact ⟨cs, rfl, h⟩
  | cons v vs ih =>
    obtain ⟨cs', h1, h2⟩ := ih (o + 1) (h.set o v)
    exact ⟨cs', by simpa using h1, h2⟩
theorem setL_cell {w : World} {g : Nat} {t : TypeId} (o : Nat) (vs : List Value) {cs : Array Value} (h : Blk w g cs t) (hs : o + vs.length ≤ cs.size) (j : Nat) : (setL w g o vs).cell? ⟨g, j, none⟩ = if o ≤ j ∧ j < o + vs.length then vs[j - o]? else w.cell? ⟨g, j, none⟩ := by
  induction vs generalizing w o cs with
  | nil => rw [setL, if_neg (by simp <;> omega)]
  | cons v vs ih =>
    simp only [List.length_cons] at hs
    rw [setL, ih (o + 1) (h.set o v) (by simp; omega), cell_set h (by omega)]
    simp only [List.length_cons]
    by_cases h1 : o + 1 ≤ j ∧ j < o + 1 + vs.length
    · rw [if_pos h1, if_pos (by omega), show j - o = (j - (o + 1)) + 1 by omega]
      rfl
    · rw [if_neg h1]
      by_cases h2 : o = j
      · subst h2
        rw [if_pos rfl, if_pos (by omega), Nat.sub_self]
        rfl
      · rw [if_neg h2, if_neg (by omega)]

/-- A row of structs in block g. -/
structure Ro {α : Type} (E : Elt α) (F : Nat → Prop) (t : TypeId) (w : World) (g : Nat) (xs : List α) : Prop where
  blk : ∃ cs, xs.length * E.k ≤ cs.size ∧ Blk w g cs t
  at_ : ∀ i x, xs[i]? = some x → ∃ vs, E.rd (fun b => F b ∧ b ≠ g) w vs x ∧ ∀ j v, vs[j]? = some v → w.cell? ⟨g, i * E.k + j, none⟩ = some v
section
variable {α : Type} {E : Elt α} {F : Nat → Prop} {t : TypeId} {w w' : World} {g : Nat} {xs : List α}
theorem Ro.lt (h : Ro E F t w g xs) : g < w.heap.size := by
  obtain ⟨cs, _, hb⟩ := h.blk
  exact hb.lt
theorem Ro.under (h : Ro E F t w g xs) (hb : Below w.heap.size w w') : Ro E F t w' g xs := by
  obtain ⟨cs, hc, hB⟩ := h.blk
  refine ⟨⟨cs, hc, hB.under hb⟩, fun i x hi => ?_⟩
  obtain ⟨vs, hr, hv⟩ := h.at_ i x hi
  exact ⟨vs, Elt.below hr hb, fun j v hj => (hb.cell h.lt).trans (hv j v hj)⟩
theorem Ro.drew (h : Ro E F t w g xs) : Ro E F t w.drew g xs := h.under (Below.refl _ _).drew
theorem Ro.alloc (h : Ro E F t w g xs) (o : Obj) : Ro E F t (w.alloc o) g xs := h.under ((Below.refl _ _).alloc (Nat.le_refl _) o)
theorem Ro.imp {F' : Nat → Prop} (h : Ro E F t w g xs) (hF : ∀ b, b < w.heap.size → F b → F' b) : Ro E F' t w g xs :=
  ⟨h.blk, fun i x hi => by
    obtain ⟨vs, hr, hv⟩ := h.at_ i x hi
    exact ⟨vs, E.imp hr (fun b hb hh => ⟨hF b hb hh.1, hh.2⟩), hv⟩⟩
theorem Ro.frozen (h : Ro E F t w g xs) (i : Nat) : w.frozen? ⟨g, i, none⟩ = false := by
  obtain ⟨cs, hc, hB⟩ := h.blk
  exact hB.frozen i
/-- The store of a member. -/
theorem Ro.set (h : Ro E F t w g xs) {i : Nat} (hi : i < xs.length) {y : α} {vs : List Value} (hy : E.rd (fun b => F b ∧ b ≠ g) w vs y) : Ro E F t (setL w g (i * E.k) vs) g (xs.set i y) := by
  obtain ⟨cs, hc, hB⟩ := h.blk
  have hl := E.len hy
  have hfit : i * E.k + vs.length ≤ cs.size := by
    have : (i + 1) * E.k ≤ xs.length * E.k := Nat.mul_le_mul_right _ hi
    rw [Nat.add_mul] at this
    omega
  have hcell := setL_cell (i * E.k) vs hB hfit
  have hbut := setL_but w g (i * E.k) vs
  have keep : ∀ {ys : List Value} {x : α}, E.rd (fun b => F b ∧ b ≠ g) w ys x → E.rd (fun b => F b ∧ b ≠ g) (setL w g (i * E.k) vs) ys x := fun hr =>
    E.keep hr hbut.size (fun p hp hF => hbut.cell hp hF.2)
  obtain ⟨cs', hc', hB'⟩ := setL_blk (i * E.k) vs hB
  refine ⟨⟨cs', by rw [List.length_set, hc']; exact hc, hB'⟩, fun k x hk => ?_⟩
  rw [List.getElem?_set] at hk
  by_cases e : i = k
  · subst e
    rw [if_pos rfl, if_pos hi] at hk
    cases hk
    refine ⟨vs, keep hy, fun j v hj => ?_⟩
    have hjl := (List.getElem?_eq_some_iff.1 hj).1
    rw [hcell, if_pos (by omega), show i * E.k + j - i * E.k = j by omega]
    exact hj
  · rw [if_neg e] at hk
    obtain ⟨ys, hr, hv⟩ := h.at_ k x hk
    refine ⟨ys, keep hr, fun j v hj => ?_⟩
    have hjl := (List.getElem?_eq_some_iff.1 hj).1
    rw [E.len hr] at hjl
    have ne : ¬ (i * E.k ≤ k * E.k + j ∧ k * E.k + j < i * E.k + vs.length) := by
      rcases Nat.lt_or_gt_of_ne e with hlt | hlt
      · have : (i + 1) * E.k ≤ k * E.k := Nat.mul_le_mul_right _ hlt
        rw [Nat.add_mul] at this
        omega
      · have : (k + 1) * E.k ≤ i * E.k := Nat.mul_le_mul_right _ hlt
        rw [Nat.add_mul] at this
        omega
    rw [hcell, if_neg ne]
    exact hv j v hj
theorem Ro.toRs (h : Ro E F t w g xs) {n c : Nat} (hn : xs.length = n) (hc : n ≤ c) (hb : c ≤ 9223372036854775807) (hF : F g) : Rs E F w (some ⟨g, 0, none⟩) n c xs :=
  ⟨hn, hc, hb, fun _ => ⟨g, 0, rfl, hF, h.lt, fun i x hi => by
    obtain ⟨vs, hr, hv⟩ := h.at_ i x hi
    exact ⟨vs, E.imp hr (fun b _ hh => hh.1), fun j v hj => by rw [Nat.zero_add]; exact hv j v hj⟩⟩⟩
/-- Such a row out of one that was appended to. -/
theorem Rq.toRo {B : Nat} {A : Option Addr} {n c : Nat} (h : Rq E F B t w A n c xs) (hn : 0 < n) : ∃ g, A = some ⟨g, 0, none⟩ ∧ B ≤ g ∧ n ≤ c ∧ c ≤ 9223372036854775807 ∧ Ro E F t w g xs := by
  obtain ⟨cs, hx, hz⟩ := id h.row
  rcases hx.2 with ⟨hv, rfl⟩ | ⟨g, cap, cur, hv, hB, hg, hnc, hm, hsz, hcs⟩
  · simp at hv
    omega
  · obtain ⟨rfl, rfl⟩ : A = some ⟨g, 0, none⟩ ∧ c = cap := by simpa using hv
    have hl := h.len
    refine ⟨g, rfl, hB, hnc, by simpa [maxLen] using hm, ⟨cur, ?_, hg⟩, fun i x hi => ?_⟩
    · rw [hl]
      exact Nat.le_trans (Nat.mul_le_mul_right _ hnc) (by omega)
    · obtain ⟨vs, hr, hv⟩ := hz i x hi
      refine ⟨vs, E.imp hr (fun b _ hb => ⟨hb.1, fun e => hb.2 (by rw [e]; rfl)⟩), fun j v hj => ?_⟩
      have e : ∀ j, ((⟨g, 0, none⟩ : Addr).add j) = ⟨g, j, none⟩ := fun j => by unfold Addr.add; split <;> simp_all
      rw [← e]
      exact hx.cells (g := g) rfl _ _ (hv j v hj)
end
end Go.Wag
