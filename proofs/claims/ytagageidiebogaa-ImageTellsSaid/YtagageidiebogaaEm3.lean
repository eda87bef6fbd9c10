/-
  Contracts of slices.IndexFunc and slices.DeleteFunc at extents, and of package extmap's Since and Range (written by gen_em3.py).
-/
import Derived.Test.YtagageidiebogaaEm2
namespace Go.Wag
open Go.RowKit
set_option linter.unusedVariables false
set_option maxRecDepth 20000
theorem setL_cells (g : Nat) : ∀ (vs : List Value) (o : Nat) (w : World), setL w g o vs = w.setCells g o vs
  | [], _, _ => rfl
  | v :: vs, o, w => by
    rw [setL, World.setCells]
    exact setL_cells g vs (o + 1) _
theorem setL_below {B g : Nat} (hB : B ≤ g) {w0 : World} : ∀ (vs : List Value) (o : Nat) {w : World}, Below B w0 w → Below B w0 (setL w g o vs)
  | [], _, _, h => h
  | v :: vs, o, _, h => setL_below hB vs (o + 1) (h.setCell (p := ⟨g, o, none⟩) hB v)
/-- 'clear' on a slice of extents. -/
theorem run_clear_five {P : Program} (w : World) (t e ty : TypeId) (ht : P.underlying t = some (.slice e)) (hv : ∀ w, (zeroValue e).run P w = .ok (.agg #[.int .i64 0, .int .i64 0, .int .i64 0, .int .i64 0, .slice none 0 0]) w) {g o n c : Nat} {cs : Array Value} {et : TypeId} (B : Blk w g cs et) (hn : o + n * 5 ≤ cs.size) :
    ∃ vs : List Value, vs.length = n * 5 ∧ (Builtin.clear_ #[t] ty #[.slice (some ⟨g, o, none⟩) n c]).run P w = .ok (.tuple #[]) (setL w g o vs) := by
  let L := (Builtin.zeroCells #[Value.int .i64 0, .int .i64 0, .int .i64 0, .int .i64 0, .slice none 0 0] n).toList
  have hL : L.length = n * 5 := by simp [L, Builtin.zeroCells]
  have hz : (Value.agg #[.int .i64 0, .int .i64 0, .int .i64 0, .int .i64 0, .slice none 0 0]).cells = #[Value.int .i64 0, .int .i64 0, .int .i64 0, .int .i64 0, .slice none 0 0] := rfl
  have h1 : ∀ v ∈ L, v.oneCell' = true := by
    intro v hv
    obtain ⟨i, hi, rfl⟩ := List.mem_iff_getElem.1 hv
    have e : L[i] = (#[Value.int .i64 0, .int .i64 0, .int .i64 0, .int .i64 0, .slice none 0 0] : Array Value)[i % 5]! := by
      simp [L, Builtin.zeroCells]
    rw [e]
    have h5 : i % 5 < 5 := Nat.mod_lt _ (by decide)
    generalize i % 5 = j at h5
    match j, h5 with
    | 0, _ => rfl
    | 1, _ => rfl
    | 2, _ => rfl
    | 3, _ => rfl
    | 4, _ => rfl
  have hst := run_storeCells_cells (P := P) g o L 0 w (fun j hj => by
    rw [B.cell, Array.getElem?_eq_getElem (by omega)]
    rfl) (fun j hj => B.frozen _) h1
  simp only [Nat.add_zero] at hst
  rw [← setL_cells] at hst
  refine ⟨L, hL, ?_⟩
  rcases Nat.eq_zero_or_pos n with h0 | h0
  · subst h0
    have : L = [] := List.length_eq_zero_iff.1 (by simpa using hL)
    rw [this, setL]
    simp [Builtin.clear_, run_underlying ht]
  · obtain ⟨m, rfl⟩ : ∃ m, n = m + 1 := ⟨n - 1, by omega⟩
    simp only [Builtin.clear_]
    simp [run_underlying ht, hv]
    show (Result.andThen ((storeCells ⟨g, o, none⟩ L 0).run P w) _) = _
    rw [hst]
    rfl
/-- Where the first one of them stands. -/
def idxE (p : Xp → Bool) (zs : List Xp) : Int := (zs.findIdx? p).elim (-1) (fun i => (i : Int))
theorem idxE_at {p : Xp → Bool} {zs : List Xp} {k : Nat} {z : Xp} (hz : zs[k]? = some z) (hp : p z = true) (hn : ∀ i x, i < k → zs[i]? = some x → p x = false) : idxE p zs = k := by
  obtain ⟨hk, hkz⟩ := List.getElem?_eq_some_iff.1 hz
  have : zs.findIdx? p = some k := by
    rw [List.findIdx?_eq_some_iff_getElem]
    refine ⟨hk, by rw [hkz]; exact hp, fun j hj => ?_⟩
    rw [hn j _ hj (List.getElem?_eq_getElem (by omega))]
    simp
  rw [idxE, this]
  rfl
theorem idxE_none {p : Xp → Bool} {zs : List Xp} (hn : ∀ z ∈ zs, p z = false) : idxE p zs = -1 := by
  have : zs.findIdx? p = none := by
    rw [List.findIdx?_eq_none_iff]
    intro z hz
    rw [hn z hz]
  rw [idxE, this]
  rfl
theorem idxE_cases (p : Xp → Bool) (zs : List Xp) : (idxE p zs = -1 ∧ ∀ z ∈ zs, p z = false) ∨ ∃ (k : Nat) (z : Xp), idxE p zs = (k : Int) ∧ k < zs.length ∧ zs[k]? = some z ∧ p z = true ∧ ∀ i x, i < k → zs[i]? = some x → p x = false := by
  cases h : zs.findIdx? p with
  | none =>
    rw [List.findIdx?_eq_none_iff] at h
    exact .inl ⟨idxE_none (fun z hz => by simpa using h z hz), fun z hz => by simpa using h z hz⟩
  | some k =>
    have h0 := h
    rw [List.findIdx?_eq_some_iff_getElem] at h
    obtain ⟨hk, h1, h2⟩ := h
    refine .inr ⟨k, zs[k], by rw [idxE, h0]; rfl, hk, List.getElem?_eq_getElem hk, h1, fun i x hi hx => ?_⟩
    obtain ⟨hi2, rfl⟩ := List.getElem?_eq_some_iff.1 hx
    simpa using h2 i hi
/-- What is kept of the first j. -/
def keptL (p : Xp → Bool) (zs : List Xp) (j : Nat) : List Xp := (zs.take j).filter fun x => !p x
theorem kept_del {p : Xp → Bool} {zs : List Xp} {j : Nat} {x : Xp} (hz : zs[j]? = some x) (hp : p x = true) : keptL p zs (j + 1) = keptL p zs j := by
  rw [keptL, take_one hz, List.filter_append]
  simp [hp, keptL]
theorem kept_add {p : Xp → Bool} {zs : List Xp} {j : Nat} {x : Xp} (hz : zs[j]? = some x) (hp : p x = false) : keptL p zs (j + 1) = keptL p zs j ++ [x] := by
  rw [keptL, take_one hz, List.filter_append]
  simp [hp, keptL]
theorem kept_first {p : Xp → Bool} {zs : List Xp} {k : Nat} {x : Xp} (hz : zs[k]? = some x) (hp : p x = true) (hn : ∀ i x, i < k → zs[i]? = some x → p x = false) : keptL p zs (k + 1) = zs.take k := by
  rw [kept_del hz hp, keptL, List.filter_eq_self]
  intro y hy
  obtain ⟨i, hi, rfl⟩ := List.mem_iff_getElem.1 hy
  rw [List.length_take] at hi
  rw [List.getElem_take, hn i _ (by omega) (List.getElem?_eq_getElem (by omega))]
  rfl
theorem kept_store {ys : List Xp} {i : Nat} {x : Xp} {l : List Xp} (hi : i < ys.length) (h : ys.take i = l) : (ys.set i x).take (i + 1) = l ++ [x] := by
  have hx : (ys.set i x)[i]? = some x := by simp [hi]
  rw [take_one hx, List.take_set, List.set_eq_of_length_le (by rw [List.length_take]; omega), h]
theorem Ro.ext_at {F : Nat → Prop} {t : TypeId} {w : World} {g : Nat} {xs : List Xp} (h : Ro extE F t w g xs) {i : Nat} {x : Xp} (hx : xs[i]? = some x) : ∃ Ai ci, 
    w.cell? ⟨g, i * 5, none⟩ = some (.int .i64 x.la) ∧ w.cell? ⟨g, i * 5 + 1, none⟩ = some (.int .i64 x.n) ∧ w.cell? ⟨g, i * 5 + 2, none⟩ = some (.int .i64 x.k) ∧ w.cell? ⟨g, i * 5 + 3, none⟩ = some (.int .i64 x.g) ∧ w.cell? ⟨g, i * 5 + 4, none⟩ = some (.slice Ai x.l.length ci) ∧ Sl w Ai x.l.length ci (x.l.map v8) ∧ (0 < x.l.length → ∀ ad, Ai = some ad → F ad.block ∧ ad.block ≠ g) := by
  obtain ⟨vs, ⟨Ai, ci, rfl, hS, hA⟩, hc⟩ := h.at_ i x hx
  exact ⟨Ai, ci, hc 0 _ rfl, hc 1 _ rfl, hc 2 _ rfl, hc 3 _ rfl, hc 4 _ rfl, hS, hA⟩
/-- The first m of a row, whatever is stored behind them. -/
theorem Ro.cutRs {F : Nat → Prop} {t : TypeId} {w : World} {g : Nat} {xs : List Xp} (h : Ro extE F t w g xs) {n m c : Nat} (hn : xs.length = n) (hm : m ≤ n) (hc : n ≤ c) (hb : c ≤ 9223372036854775807) (hF : F g) (vs : List Value) (hv : vs.length = (n - m) * 5) : Rs extE F (setL w g (m * 5) vs) (some ⟨g, 0, none⟩) m c (xs.take m) := by
  obtain ⟨cs, hcs, hB⟩ := h.blk
  have hcs' : xs.length * 5 ≤ cs.size := hcs
  have hbut := setL_but w g (m * 5) vs
  refine ⟨by rw [List.length_take]; omega, by omega, hb, fun _ => ⟨g, 0, rfl, hF, by rw [setL_size]; exact h.lt, fun i x hx => ?_⟩⟩
  have hi := (List.getElem?_eq_some_iff.1 hx).1
  rw [List.length_take] at hi
  rw [List.getElem?_take, if_pos (by omega)] at hx
  obtain ⟨us, hr, hu⟩ := h.at_ i x hx
  have hul := extE.len hr
  have hul5 : us.length = 5 := hul
  refine ⟨us, extE.imp (extE.keep hr (by rw [setL_size]; exact Nat.le_refl _) (fun p hp hF => World.cell?_of_block (hbut.block _ hp hF.2))) (fun b _ hh => hh.1), fun j v hj => ?_⟩
  have hjl := (List.getElem?_eq_some_iff.1 hj).1
  have e5 : extE.k = 5 := rfl
  rw [Nat.zero_add, e5, setL_cell (m * 5) vs hB (by omega), if_neg (by omega)]
  exact hu j v hj
end Go.Wag
namespace Go.Proofs.Ytagageidiebogaa
open Go.RowKit Go.Wag
set_option linter.unusedVariables false
set_option linter.unusedSimpArgs false
set_option maxRecDepth 20000
theorem zero_ext (W : World) : (zeroValue 41).run Try.prog W = .ok (.agg #[.int .i64 0, .int .i64 0, .int .i64 0, .int .i64 0, .slice none 0 0]) W := by kernel_rfl
/-- What DeleteFunc leaves. -/
def DelPost (B : Nat) (F : Nat → Prop) (w : World) (ys : List Xp) (e : Ending) (w' : World) : Prop := ∃ A n c, Hid (ys.length = n) ∧ e = .returned (.slice A n c) ∧ Rs extE F w' A n c ys ∧ Below B w w'
theorem since_eq (xs : List Xp) (gv : Int) : (xs.filter fun x => !(decide (x.g ≤ gv))) = msince xs gv := by
  unfold msince
  congr 1
  funext x
  by_cases h : x.g ≤ gv
  · simp [h]
    try omega
  · simp [h]
    try omega
end Go.Proofs.Ytagageidiebogaa
