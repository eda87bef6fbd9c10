/-
  Contracts of slices.Grow and slices.Concat at extents (three rows).
-/
import Derived.Test.YtagageidiebogaaEm1
import Derived.Lib.AppendZeros
import Derived.Deep.LoopGhost
namespace Go.Wag
open Go.RowKit
set_option linter.unusedVariables false
set_option maxRecDepth 20000
/-- The cells of a slice of extents. -/
theorem rs_cells {w : World} {F : Nat → Prop} {A : Option Addr} {n c : Nat} {xs : List Xp} (h : Rs extE F w A n c xs) (hn : 0 < n) : ∃ (g o : Nat) (vs : List Value), A = some ⟨g, o, none⟩ ∧ vs.length = n * 5 ∧ (∀ u ∈ vs, u.oneCell' = true) ∧ (∀ j u, vs[j]? = some u → w.cell? ⟨g, o + j, none⟩ = some u) ∧
    ∀ i x, xs[i]? = some x → ∃ us, extE.rd F w us x ∧ ∀ j v, us[j]? = some v → vs[i * 5 + j]? = some v := by
  obtain ⟨g, o, e, hF, hg, hc⟩ := h.cells hn
  have key : ∀ j, j < n * 5 → ∃ x us, xs[j / 5]? = some x ∧ extE.rd F w us x ∧ ∃ v, us[j % 5]? = some v ∧ w.cell? ⟨g, o + j, none⟩ = some v := fun j hj => by
    have hi : j / 5 < xs.length := by have := h.len; omega
    obtain ⟨us, hr, hv⟩ := hc (j / 5) xs[j / 5] (List.getElem?_eq_getElem hi)
    have hul : us.length = 5 := extE.len hr
    refine ⟨xs[j / 5], us, List.getElem?_eq_getElem hi, hr, us[j % 5]'(by omega), List.getElem?_eq_getElem _, ?_⟩
    have := hv (j % 5) _ (List.getElem?_eq_getElem (by omega))
    have e5 : extE.k = 5 := rfl
    rw [e5, Nat.add_assoc, show j / 5 * 5 + j % 5 = j by omega] at this
    exact this
  refine ⟨g, o, (List.range (n * 5)).map (fun j => (w.cell? ⟨g, o + j, none⟩).getD undef), e, by simp, fun u hu => ?_, fun j u hj => ?_, fun i x hx => ?_⟩
  · obtain ⟨j, hj, rfl⟩ := List.mem_map.1 hu
    obtain ⟨x, us, _, ⟨Ai, ci, rfl, _, _⟩, v, hv, hw⟩ := key j (List.mem_range.1 hj)
    rw [hw]
    exact one_ext _ _ _ _ _ _ _ v (List.mem_of_getElem? hv)
  · have hjl := (List.getElem?_eq_some_iff.1 hj).1
    simp only [List.length_map, List.length_range] at hjl
    obtain ⟨x, us, _, _, v, _, hw⟩ := key j hjl
    rw [List.getElem?_map, List.getElem?_range hjl, Option.map_some, hw] at hj
    cases hj
    exact hw
  · obtain ⟨us, hr, hv⟩ := hc i x hx
    refine ⟨us, hr, fun j v hj => ?_⟩
    have hul : us.length = 5 := extE.len hr
    have hjl := (List.getElem?_eq_some_iff.1 hj).1
    have hi := (List.getElem?_eq_some_iff.1 hx).1
    have hn2 := h.len
    have hw := hv j v hj
    have e5 : extE.k = 5 := rfl
    rw [e5, Nat.add_assoc] at hw
    rw [List.getElem?_map, List.getElem?_range (by omega), Option.map_some, hw]
    rfl
/-- A slice of extents more. -/
theorem Rq.appRs {P : Program} {F : Nat → Prop} {B : Nat} {t : TypeId} {w : World} {A : Option Addr} {n c : Nat} {xs : List Xp} (h : Rq extE F B t w A n c xs) {T ty : TypeId} {i0 : TypeInfo} {z : Value} {bytes : Nat} (hT : P.underlying T = some (.slice t)) (hi : P.info? t = some i0) (hz : i0.zero = some z) (hsz : i0.size = 5) (hby : i0.bytes = bytes) (hzs : z.cells.size = 5)
    (hB : B ≤ w.heap.size) {Ay : Option Addr} {m cy : Nat} {ys : List Xp} (hy : Rs extE (fun b => F b ∧ (Value.slice A n c).ownBlock ≠ some b) w Ay m cy ys) (hn : (n + m) * bytes ≤ 140737488355328) (hn2 : n + m ≤ 9223372036854775807) :
    ∃ A' c' w', (Builtin.append_ #[T, T] ty #[.slice A n c, .slice Ay m cy]).run P w = .ok (.slice A' (n + m) c') w' ∧ Rq extE F B t w' A' (n + m) c' (xs ++ ys) ∧ w.grownBy w' (Value.slice A n c).ownBlock ∧
      ((Value.slice A' (n + m) c').ownBlock = (Value.slice A n c).ownBlock ∨ (Value.slice A' (n + m) c').ownBlock = some w.heap.size) := by
  cases Ay with
  | none =>
    obtain rfl : m = 0 := by
      rcases Nat.eq_zero_or_pos m with h0 | h0
      · exact h0
      · obtain ⟨g, o, e, _⟩ := hy.cells h0
        cases e
    obtain rfl : ys = [] := List.length_eq_zero_iff.1 hy.len
    obtain ⟨cs, hc, _⟩ := id h.row
    refine ⟨A, c, w, ?_, by simpa using h, World.grownBy.refl _ _, .inl rfl⟩
    rcases hc.2 with ⟨hv, rfl⟩ | ⟨g, cap, cur, hv, _, _, hnc, _⟩
    · obtain ⟨rfl, -, rfl⟩ : A = none ∧ 0 = 0 ∧ c = 0 := by simpa using hv
      simp [Builtin.append_, run_underlying hT, sizeOf, typeInfo, hi, Builtin.lenOf, Builtin.firstCells]
    · obtain ⟨rfl, rfl⟩ : A = some ⟨g, 0, none⟩ ∧ c = cap := by simpa using hv
      simp [Builtin.append_, run_underlying hT, sizeOf, typeInfo, hi, Builtin.lenOf, Builtin.firstCells, hnc, storeCells]
  | some ad =>
    obtain ⟨vs, hvl, h1, hvc, hvx⟩ : ∃ vs : List Value, vs.length = m * 5 ∧ (∀ u ∈ vs, u.oneCell' = true) ∧ (∀ j u, vs[j]? = some u → w.cell? (ad.add j) = some u) ∧
        ∀ i x, ys[i]? = some x → ∃ us, extE.rd (fun b => F b ∧ (Value.slice A n c).ownBlock ≠ some b) w us x ∧ ∀ j v, us[j]? = some v → vs[i * 5 + j]? = some v := by
      rcases Nat.eq_zero_or_pos m with h0 | h0
      · subst h0
        obtain rfl : ys = [] := List.length_eq_zero_iff.1 hy.len
        exact ⟨[], by simp, by simp, by simp, by simp⟩
      · obtain ⟨gy, oy, vs, e, hvl, h1, hvc, hvx⟩ := rs_cells hy h0
        cases e
        refine ⟨vs, hvl, h1, fun j u hu => ?_, hvx⟩
        have e : ((⟨gy, oy, none⟩ : Addr).add j) = ⟨gy, oy + j, none⟩ := by unfold Addr.add; split <;> simp_all
        rw [e]
        exact hvc j u hu
    obtain ⟨cs, hc, hz0⟩ := h.row
    obtain ⟨v', w', hr, h2, h3, _, h5⟩ := run_append_own_at (P := P) w B T ty t i0 z 5 bytes hT hi hz hsz hby hzs (by decide) (.slice A n c) n cs hc ad m cy vs hvl hvc h1 (by simp only [maxLen]; omega) hn hB
    obtain ⟨A', c', rfl⟩ := own_form h2
    have hxl : cs.length = n * 5 := hc.1
    have hl := h.len
    have step : ∀ {us : List Value} {y : Xp}, extE.rd (fun b => F b ∧ (Value.slice A n c).ownBlock ≠ some b) w us y → extE.rd (fun b => F b ∧ (Value.slice A' (n + m) c').ownBlock ≠ some b) w' us y := fun {us y} hy => by
      have k1 : extE.rd (fun b => F b ∧ (Value.slice A n c).ownBlock ≠ some b ∧ (Value.slice A' (n + m) c').ownBlock ≠ some b) w us y := extE.imp hy (fun b hb hh => ⟨hh.1, hh.2, by
        rcases h5 with e | e
        · rw [e]; exact hh.2
        · rw [e]; intro e2; have := Option.some.inj e2; omega⟩)
      exact extE.imp (extE.keep k1 h3.size (fun p hp hF => World.cell?_of_block (h3.block _ hp (fun e => hF.2.1 e.symm)))) (fun b _ hh => ⟨hh.1, hh.2.2⟩)
    refine ⟨A', c', w', hr, ⟨by rw [List.length_append, hl, hy.len], _, h2, fun i y hi => ?_⟩, h3, h5⟩
    by_cases hin : i < n
    · rw [List.getElem?_append_left (by omega)] at hi
      obtain ⟨us, hy, hv⟩ := hz0 i y hi
      refine ⟨us, step hy, fun j v hj => ?_⟩
      have hul : us.length = 5 := extE.len hy
      have hjl := (List.getElem?_eq_some_iff.1 hj).1
      have e5 : extE.k = 5 := rfl
      rw [e5, List.getElem?_append_left (by omega)]
      exact hv j v hj
    · rw [List.getElem?_append_right (by omega), hl] at hi
      obtain ⟨us, hy, hv⟩ := hvx (i - n) y hi
      refine ⟨us, step hy, fun j v hj => ?_⟩
      have e5 : extE.k = 5 := rfl
      rw [e5, List.getElem?_append_right (by omega), hxl, show i * 5 + j - n * 5 = (i - n) * 5 + j by omega]
      exact hv j v hj
theorem own_zero5 {w : World} {e : TypeId} {cs : Array Value} {c : Nat} (hc : cs.size = c * 5) (hm : c ≤ 9223372036854775807) : (w.drew.alloc (.cells cs e)).ownsRow w.heap.size e 5 (.slice (some ⟨w.heap.size, 0, none⟩) 0 c) 0 [] :=
  ⟨by simp, .inr ⟨w.heap.size, c, cs, rfl, Nat.le_refl _, heap_alloc_new w.drew _, by omega, by simp only [maxLen]; omega, by simpa using hc, by simp⟩⟩
def sumN (n : Nat → Nat) : Nat → Nat
  | 0 => 0
  | k + 1 => sumN n k + n k
def catN (L : Nat → List Xp) : Nat → List Xp
  | 0 => []
  | k + 1 => catN L k ++ L k
theorem catN_len {n : Nat → Nat} {L : Nat → List Xp} : ∀ (k : Nat), (∀ j, j < k → (L j).length = n j) → (catN L k).length = sumN n k
  | 0, _ => rfl
  | k + 1, h => by rw [catN, sumN, List.length_append, catN_len k (fun j hj => h j (by omega)), h k (by omega)]
theorem sumN_le {n : Nat → Nat} : ∀ (k : Nat), (∀ j, j < k → n j ≤ 1000000000) → sumN n k ≤ 1000000000 * k
  | 0, _ => by simp [sumN]
  | k + 1, h => by
    have := sumN_le k (fun j hj => h j (by omega))
    have := h k (by omega)
    rw [sumN]
    omega
end Go.Wag
namespace Go.Proofs.Ytagageidiebogaa
open Go.RowKit Go.Wag
set_option linter.unusedVariables false
set_option linter.unusedSimpArgs false
set_option maxRecDepth 20000
theorem un3x : Try.prog.underlying 3 = some (.int .i64) := by kernel_rfl
/-- Rows behind one another, in a row of their own. -/
def CatPost (F : Nat → Prop) (w : World) (ys : List Xp) (e : Ending) (w' : World) : Prop := ∃ A n c, Hid (ys.length = n) ∧ e = .returned (.slice A n c) ∧ Rq extE (fun b => F b ∧ b < w.heap.size) w.heap.size 41 w' A n c ys ∧ Below w.heap.size w w'
end Go.Proofs.Ytagageidiebogaa
