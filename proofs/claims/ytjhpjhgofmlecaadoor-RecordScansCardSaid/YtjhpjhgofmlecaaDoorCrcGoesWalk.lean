/-
  The walk of CrcGoes.
-/
import Derived.Test.YtjhpjhgofmlecaaDoorCrcAwake
namespace Go.Proofs.YtjhpjhgofmlecaaDoor
open Go.RowKit Go.Wag
set_option linter.unusedVariables false

theorem wf_w32 {n : Int} (h : (Lit.int .u32 n).wf = true) : ∃ s : W32, n = (s.toNat : Int) := by
  have := bounds_u32 h
  refine ⟨BitVec.ofNat 32 n.toNat, ?_⟩
  rw [BitVec.toNat_ofNat]
  omega
theorem len_join (n : Nat) (h : ¬ (300 : Int) < (n : Int)) : min (max (n : Int) 0) 1073741824 = (n : Int) := by omega

end Go.Proofs.YtjhpjhgofmlecaaDoor
