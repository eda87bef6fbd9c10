/-
  The walk of CrcBurst.
-/
import Derived.Test.YtjhpjhgofmlecaaDoorCrcLinearWalk
namespace Go.Proofs.YtjhpjhgofmlecaaDoor
open Go.RowKit Go.Wag
set_option linter.unusedVariables false

theorem bit_form (v : W32) (k : Nat) : (((v.toNat : Int) / 2 ^ k).tmod 2 == 1) = v.getLsbD k := by
  have e : (v.toNat : Int) / 2 ^ k = ((v.toNat / 2 ^ k : Nat) : Int) := by
    have h2 : (2 : Int) ^ k = ((2 ^ k : Nat) : Int) := by simp
    rw [h2]; exact (Int.natCast_ediv _ _).symm
  rw [e, Int.tmod_eq_emod_of_nonneg (Int.natCast_nonneg _), Bool.eq_iff_iff, beq_iff_eq]
  have : v.getLsbD k = decide (v.toNat / 2 ^ k % 2 = 1) := by
    rw [BitVec.getLsbD, Nat.testBit_eq_decide_div_mod_eq]
  rw [this, decide_eq_true_eq]
  generalize v.toNat / 2 ^ k = q
  omega
theorem bit_no (v : W32) (k : Nat) (h : v.getLsbD k = false) : (((v.toNat : Int) / 2 ^ k).tmod 2 == 1) = false := by rw [bit_form, h]
theorem bit_yes (v : W32) (k : Nat) (h : v.getLsbD k = true) : (((v.toNat : Int) / 2 ^ k).tmod 2 == 1) = true := by rw [bit_form, h]

theorem flip_form (x : UInt8) (r : Nat) (h : r < 8) : bits .xor .u8 (x.toNat : Int) (2 ^ r % 256) = ((x ^^^ (1 <<< UInt8.ofNat r)).toNat : Int) := by
  have e2 : ∀ i : Fin 8, ((2 : Int) ^ i.val % (256 : Int)) = ((1 <<< UInt8.ofNat i.val : UInt8).toNat : Int) := by decide
  have e3 : (2 : Int) ^ r % (256 : Int) = _ := e2 ⟨r, h⟩
  rw [e3, xor8]

end Go.Proofs.YtjhpjhgofmlecaaDoor
