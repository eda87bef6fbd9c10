/-
  The calls at the head of layer 2's statements answer as the document says.
-/
import Derived.Test.YtjhpjhgofmlecaaDoorCrcSeal
import Derived.Lib.SlBytesConst
namespace Go.Proofs.YtjhpjhgofmlecaaDoor
open Go.RowKit Go.Wag
set_option linter.unusedVariables false

theorem Tab.alloc {w : World} (hT : Tab w) (o : Obj) : Tab (w.alloc o) := hT.below ((Below.refl _ w).alloc (Nat.le_refl _) o)
theorem Sum_num (A : Option Addr) (n c : Nat) (l : List UInt8) (v : Int) (hv : ((moreF 0#32 l).toNat : Int) = v) (w : World) (hT : Tab w) (h : Sl w A n c (l.map v8)) :
    Calls Tryd.prog 36 #[.slice A n c] w fun e w' => e = .returned (.int .u32 v) ∧ w = w' := by
  subst hv
  exact Sum_any A n c l w hT h
theorem More_num (s : W32) (sv : Int) (hs : (s.toNat : Int) = sv) (A : Option Addr) (n c : Nat) (l : List UInt8) (v : Int) (hv : ((moreF s l).toNat : Int) = v) (w : World) (hT : Tab w) (h : Sl w A n c (l.map v8)) :
    Calls Tryd.prog 45 #[.int .u32 sv, .slice A n c] w fun e w' => e = .returned (.int .u32 v) ∧ w = w' := by
  subst hv hs
  exact More_any s A n c l w hT h
/-- '[]byte("..")' of a constant: its row bears a mark. -/
theorem kc (w : World) (C : Array Value) (n c : Nat) :
    (convert 23 23 (.slice (some ⟨w.heap.size, 0, none⟩) n c)).run Tryd.prog (w.alloc (.cells C 5)) = .ok (.slice (some ⟨w.heap.size, 0, none⟩) n c) (w.alloc (.cells C 5 (C.size, C.size + 1))) :=
  Lib.run_convert_bytes_const w 23 5 C n c Tryd.underlying23 Tryd.underlying5
theorem slm (w : World) (l : List UInt8) (fr : Nat × Nat) (hl : l.length ≤ 1000) : Sl (w.alloc (.cells (l.map v8).toArray 5 fr)) (some ⟨w.heap.size, 0, none⟩) l.length l.length (l.map v8) :=
  ⟨by simp, Nat.le_refl _, by omega, fun _ => ⟨_, rfl, by simp, fun j u hu => by
    have : (w.alloc (.cells (l.map v8).toArray 5 fr)).cell? ⟨w.heap.size, j, none⟩ = (l.map v8).toArray[j]? := World.cell?_alloc_mark w _ _ fr j
    have h2 : ((⟨w.heap.size, 0, none⟩ : Addr).add j) = ⟨w.heap.size, j, none⟩ := by
      unfold Addr.add; split <;> simp_all
    rw [h2, this]
    simpa using hu⟩⟩

/-- A call that leaves the world: as one that turns nothing old (so that the world gets a new name). -/
theorem named {P : Program} {f : FuncId} {args : Array Value} {w : World} {v : Value} (h : Calls P f args w fun e w' => e = .returned v ∧ w = w') : Calls P f args w fun e w' => e = .returned v ∧ Below w.heap.size w w' :=
  h.mono fun e w' ⟨he, hw⟩ => ⟨he, hw ▸ Below.refl _ _⟩
theorem alloc_below {w w' : World} {o : Obj} (h : Below (w.alloc o).heap.size (w.alloc o) w') : Below w.heap.size w w' := ((Below.refl _ w).alloc (Nat.le_refl _) o).trans (h.mono (by simp))

end Go.Proofs.YtjhpjhgofmlecaaDoor
