/-
  Contract of package extmap's Lay (written by gen_em8.py).
-/
import Derived.Test.YtagageidiebogaaEm7
import Derived.Test.YtagageidiebogaaGoto
namespace Go.Wag
open Go.RowKit
set_option linter.unusedVariables false
/-- The address of 's[k:]' of extents. -/
def cutA5 (A : Option Addr) (c k : Nat) : Option Addr := if c = k then A else A.map (·.add (k * 5))
theorem run_cut5 {P : Program} (t : TypeId) (e : TypeId) (ht : P.underlying t = some (.slice (P.elem t))) (he : P.elem t = e) (hsz : (P.info? e).map (·.size) = some 5) (A : Option Addr) (n c : Nat) (kl : IntKind) (L : Int) (k : Nat) (hL : L = k) (hk : k ≤ n) (w : World) :
    (Instr.slice t (.slice A n c) (some (.int kl L)) none none).run P w = .ok (.slice (cutA5 A c k) (n - k) (c - k)) w := by
  subst hL he
  obtain ⟨i, hi, hs⟩ := Option.map_eq_some_iff.1 hsz
  rw [run_slice_l w t A n c ht kl k (by omega) (by omega)]
  simp [sizeOf, typeInfo, hi, hs, sliced, cutA5]
theorem Rs.from5 {F : Nat → Prop} {w : World} {A : Option Addr} {n c : Nat} {xs : List Xp} (h : Rs extE F w A n c xs) {k : Nat} (hk : k ≤ n) : Rs extE F w (cutA5 A c k) (n - k) (c - k) (xs.drop k) := by
  refine ⟨by rw [List.length_drop, h.len], by have := h.cap; omega, by have := h.big; omega, fun hn => ?_⟩
  obtain ⟨g, o, e, hF, hg, hc⟩ := h.cells (by omega)
  have hcap := h.cap
  refine ⟨g, o + k * 5, ?_, hF, hg, fun i x hi => ?_⟩
  · rw [cutA5, if_neg (by omega), e, Option.map_some]
    congr 1
    unfold Addr.add
    split <;> simp_all
  · rw [List.getElem?_drop] at hi
    obtain ⟨vs, hr, hv⟩ := hc (k + i) x hi
    refine ⟨vs, hr, fun j v hj => ?_⟩
    have e5 : extE.k = 5 := rfl
    rw [e5] at hv ⊢
    rw [show o + k * 5 + i * 5 + j = o + (k + i) * 5 + j by omega]
    exact hv j v hj
end Go.Wag
namespace Go.Proofs.Ytagageidiebogaa
open Go.RowKit Go.Wag
set_option linter.unusedVariables false
set_option linter.unusedSimpArgs false
set_option maxRecDepth 20000
theorem unXS : Try.prog.underlying 23 = some (.slice (Try.prog.elem 23)) := by kernel_rfl
theorem elXS : Try.prog.elem 23 = 41 := by kernel_rfl
theorem szEX : (Try.prog.info? 41).map (·.size) = some 5 := by kernel_rfl
/-- What Lay answers. -/
def LayPost (w : World) (xs : List Xp) (r : Option (List Xp)) (e : Ending) (w' : World) : Prop := LErr w (r.getD xs) (errOf r 81) e w'
/-- What holds at Lay's label. -/
def LayAt (F : Nat → Prop) (w : World) (b : Int) (A : Option Addr) (n c : Nat) (r : Option (List Xp)) (g : Nat) (a' : Act) (w' : World) : Prop :=
  ∃ (Ar : Option Addr) (cr : Nat) (Am : Option Addr) (nm cm : Nat) (ms rest : List Xp) (u3 u4 u5 u6 u7 u9 u10 u11 u12 u13 u14 u15 u16 u17 u18 u19 u20 u21 u22 u23 u24 u25 u26 u27 u28 u29 u30 u31 u32 u33 u34 u35 : Value), a' = { tmps := #[.int .i64 b, .slice A n c, .slice Ar g cr, u3, u4, u5, u6, u7, .slice Am nm cm, u9, u10, u11, u12, u13, u14, u15, u16, u17, u18, u19, u20, u21, u22, u23, u24, u25, u26, u27, u28, u29, u30, u31, u32, u33, u34, u35], defers := [] } ∧
    Hid (mlays b ms rest = r) ∧ Rs extE F w' Ar g cr rest ∧ Hid (∀ x ∈ rest, x.la ≤ 9223372036854775807) ∧ Hid (mapB b ms = true) ∧ Rs extE (fun y => w.heap.size ≤ y) w' Am nm cm ms ∧ Below w.heap.size w w'
end Go.Proofs.Ytagageidiebogaa
