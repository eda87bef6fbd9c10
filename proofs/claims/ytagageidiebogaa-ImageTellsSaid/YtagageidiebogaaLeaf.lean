/-
  Slices of structs that hold structs: their cells by their forms. No program is named here.
-/
import Derived.Test.YtagageidiebogaaSteps
namespace Go.Wag
open Go.RowKit Go.ChangeShapes Go.WideShapes Go.Deep
set_option linter.unusedVariables false
/-- At cell o of a type lies a leaf of a form. -/
inductive Leaf (P : Program) : TypeId → Nat → Fm → Prop where
  | here {t : TypeId} {m : Fm} (h : FmOk P m t) (hc : P.cellsOf t = 1) : Leaf P t 0 m
  | field {t : TypeId} {fs : Array Field} {i o j : Nat} {f : Field} {m : Fm} (ht : P.underlying t = some (.struct fs)) (hf : fs[i]? = some f) (h : Leaf P f.type o m) (hj : j = f.offset + o) (hk : o < P.cellsOf f.type) (hfit : f.offset + P.cellsOf f.type ≤ P.cellsOf t) : Leaf P t j m
  | elem {t e : TypeId} {k i o j : Nat} {m : Fm} (ht : P.underlying t = some (.array k e)) (hi : i < k) (h : Leaf P e o m) (hj : j = i * P.cellsOf e + o) (hk : o < P.cellsOf e) (hfit : i * P.cellsOf e + P.cellsOf e ≤ P.cellsOf t) : Leaf P t j m
section
variable {H : Type} {enc : TypeId × Value → H} {P : Program} {w : World} {base : Nat} {held : Bool}
theorem leaf_of_trod {t : TypeId} {o : Nat} {m : Fm} (hL : Leaf P t o m) : ∀ {n : Nat} {cs : List Value} {y : DataW H × List MemPlace}, cs.length = P.cellsOf t → DataW.trod enc P w base (fun _ => true) held n t cs = some y → ∃ v, cs[o]? = some v ∧ FdOk m w v := by
  induction hL with
  | here h hc =>
    intro n cs y hl ht
    rw [hc] at hl
    match cs, hl with
    | [v], _ => exact ⟨v, rfl, fdOk_of_trod h ht⟩
  | field ht hf h hj hk hfit ih =>
    intro n cs y hl htr
    obtain ⟨ys, k, _, _, _, hyl, hfd⟩ := DataW.trod_struct ht htr
    have h1 := hfd _ _ hf
    have his := (Array.getElem?_eq_some_iff.1 hf).1
    rw [List.getElem?_eq_getElem (by omega)] at h1
    obtain ⟨v, hv, hok⟩ := ih (by rw [List.length_take, List.length_drop]; omega) h1
    refine ⟨v, ?_, hok⟩
    rw [List.getElem?_take, if_pos hk, List.getElem?_drop] at hv
    rw [hj]
    exact hv
  | elem ht hi h hj hk hfit ih =>
    intro n cs y hl htr
    obtain ⟨ys, k', _, _, _, hyl, hfd⟩ := DataW.trod_array ht htr
    have h1 := hfd _ hi
    rw [List.getElem?_eq_getElem (by omega)] at h1
    obtain ⟨v, hv, hok⟩ := ih (by rw [List.length_take, List.length_drop]; omega) h1
    refine ⟨v, ?_, hok⟩
    rw [List.getElem?_take, if_pos hk, List.getElem?_drop] at hv
    rw [hj]
    exact hv
theorem isSts_of_leaves {t e : TypeId} {ms : List Fm} {a : Option Addr} {len cap : Nat} {d : DataW H} {ps : List MemPlace} (ht : P.underlying t = some (.slice e)) (hC : P.cellsOf e = ms.length)
    (hF : ∀ j m, ms[j]? = some m → Leaf P e j m) (h : DataW.Trod enc P w base (fun _ => true) held t (.slice a len cap) d ps) : IsSts ms w a len cap := by
  obtain ⟨fuel, hf⟩ := h
  rcases open_slice ht hf with ⟨hcs, _⟩ | ⟨ad, l, c, m, n, D, Pl, hcs, _, hlc, hcm, hm, _, hi⟩
  · obtain ⟨rfl, rfl, rfl⟩ : a = none ∧ len = 0 ∧ cap = 0 := by simpa [Value.cells] using hcs
    exact .inl ⟨rfl, rfl, rfl⟩
  · obtain ⟨rfl, rfl, rfl⟩ : a = some ad ∧ len = l ∧ cap = c := by simpa [Value.cells] using hcs
    refine .inr ⟨ad, rfl, hlc, hcm, fun i hil j fm hj => ?_⟩
    have hmc : m = cap := by simpa using hm
    obtain ⟨cs, hc, htr⟩ := hi i (by omega)
    obtain ⟨_, hcl, hat⟩ := World.cells?_some hc
    obtain ⟨v, hv, hok⟩ := leaf_of_trod (hF j fm hj) hcl htr
    refine ⟨v, ?_, hok⟩
    have hjs : j < ms.length := (List.getElem?_eq_some_iff.1 hj).1
    rw [← add_add, ← hC, hat j (by omega), hv]
end
end Go.Wag
