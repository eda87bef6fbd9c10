/-
  A slice of structs that came in: what a reading says of its cells. No program is named here.
-/
import Derived.Test.YtagageidiebogaaArgs
import Derived.Deep.Slices
import Derived.Deep.Fields
namespace Go.Wag
open Go.RowKit Go.ChangeShapes Go.WideShapes Go.Deep

/-- The form of a field: a number, a string, a bool, a slice of numbers. -/
inductive Fm where
  | num (k : IntKind)
  | str
  | bool
  | row (k : IntKind)
/-- A cell of such a form, in a world. -/
def FdOk : Fm → World → Value → Prop
  | .num k, _, v => ∃ n, v = .int k n ∧ (Lit.int k n).wf = true
  | .str, _, v => ∃ s : ByteArray, v = .string s ∧ s.size ≤ maxLen
  | .bool, _, v => ∃ b, v = .bool b
  | .row k, w, v => ∃ a len cap zs, v = .slice a len cap ∧ IsRow k w a len cap zs
/-- A type of such a form. -/
def FmOk (P : Program) : Fm → TypeId → Prop
  | .num k, t => P.underlying t = some (.int k)
  | .str, t => P.underlying t = some .string
  | .bool, t => P.underlying t = some .bool
  | .row k, t => ∃ e, P.underlying t = some (.slice e) ∧ P.underlying e = some (.int k) ∧ P.cellsOf e = 1
inductive FmsOk (P : Program) : List Field → List Fm → Prop where
  | nil : FmsOk P [] []
  | cons {f : Field} {fs : List Field} {m : Fm} {ms : List Fm} (h : FmOk P m f.type) (r : FmsOk P fs ms) : FmsOk P (f :: fs) (m :: ms)
theorem FmsOk.len {P : Program} {fs : List Field} {ms : List Fm} (h : FmsOk P fs ms) : ms.length = fs.length := by
  induction h with
  | nil => rfl
  | cons _ _ ih => simp [ih]
theorem FmsOk.at_ {P : Program} {fs : List Field} {ms : List Fm} (h : FmsOk P fs ms) : ∀ (j : Nat) (m : Fm), ms[j]? = some m → ∃ f, fs[j]? = some f ∧ FmOk P m f.type := by
  induction h with
  | nil => intro j m hj; simp at hj
  | cons h0 _ ih =>
    intro j m hj
    cases j with
    | zero =>
      simp only [List.getElem?_cons_zero, Option.some.injEq] at hj
      subst hj
      exact ⟨_, rfl, h0⟩
    | succ j => exact ih j m (by simpa using hj)
/-- A slice of structs of such fields. -/
def IsSts (ms : List Fm) (w : World) (a : Option Addr) (len cap : Nat) : Prop :=
  (a = none ∧ len = 0 ∧ cap = 0) ∨ ∃ ad, a = some ad ∧ len ≤ cap ∧ cap ≤ maxLen ∧ ∀ i, i < len → ∀ j m, ms[j]? = some m → ∃ v, w.cell? (ad.add (i * ms.length + j)) = some v ∧ FdOk m w v

section
variable {H : Type} {enc : TypeId × Value → H} {P : Program} {w : World} {base : Nat} {held : Bool}
theorem fdOk_of_trod {m : Fm} {t : TypeId} {n : Nat} {v : Value} {y : DataW H × List MemPlace} (hm : FmOk P m t) (h : DataW.trod enc P w base (fun _ => true) held n t [v] = some y) : FdOk m w v := by
  cases m with
  | num k =>
    obtain ⟨x, hx, _, hw⟩ := DataW.trod_int hm h
    exact ⟨x, by simpa using hx, hw⟩
  | str =>
    obtain ⟨x, hx, _, hw⟩ := DataW.trod_string hm h
    exact ⟨x, by simpa using hx, hw⟩
  | bool =>
    obtain ⟨x, hx, _⟩ := DataW.trod_bool hm h
    exact ⟨x, by simpa using hx⟩
  | row k =>
    obtain ⟨e, h1, h2, h3⟩ := hm
    exact isRow_of_trod h1 h2 h3 h
theorem isSts_of_trod {t e : TypeId} {fs : Array Field} {ms : List Fm} {a : Option Addr} {len cap : Nat} {d : DataW H} {ps : List MemPlace} (ht : P.underlying t = some (.slice e)) (he : P.underlying e = some (.struct fs)) (hone : oneCellFields P fs = true) (hC : P.cellsOf e = fs.size)
    (hF : FmsOk P fs.toList ms) (h : DataW.Trod enc P w base (fun _ => true) held t (.slice a len cap) d ps) : IsSts ms w a len cap := by
  have hl : ms.length = fs.size := by simpa using hF.len
  obtain ⟨fuel, hf⟩ := h
  rcases open_slice ht hf with ⟨hcs, _⟩ | ⟨ad, l, c, m, n, D, Pl, hcs, _, hlc, hcm, hm, _, hi⟩
  · obtain ⟨rfl, rfl, rfl⟩ : a = none ∧ len = 0 ∧ cap = 0 := by simpa [Value.cells] using hcs
    exact .inl ⟨rfl, rfl, rfl⟩
  · obtain ⟨rfl, rfl, rfl⟩ : a = some ad ∧ len = l ∧ cap = c := by simpa [Value.cells] using hcs
    refine .inr ⟨ad, rfl, hlc, hcm, fun i hil j fm hj => ?_⟩
    have hmc : m = cap := by simpa using hm
    obtain ⟨cs, hc, htr⟩ := hi i (by omega)
    rw [hC] at hc
    obtain ⟨ys, k, _, _, _, hyl, hfd⟩ := DataW.trod_struct he htr
    obtain ⟨f, hfj, hfm⟩ := hF.at_ j fm hj
    have hfa : fs[j]? = some f := by simpa using hfj
    have hjs : j < fs.size := (Array.getElem?_eq_some_iff.1 hfa).1
    obtain ⟨ho, hk⟩ := hone_of hone j f hfa
    obtain ⟨_, hcl, hat⟩ := World.cells?_some hc
    have h1 := hfd j f hfa
    rw [ho, hk, List.getElem?_eq_getElem (by omega : j < ys.length), List.drop_eq_getElem_cons (by omega : j < cs.length)] at h1
    refine ⟨cs[j]'(by omega), ?_, fdOk_of_trod hfm h1⟩
    rw [hl, ← add_add, hat j hjs, List.getElem?_eq_getElem]
end
end Go.Wag
