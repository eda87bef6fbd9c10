/-
  The walk of CrcNone.
-/
import Derived.Test.YtjhpjhgofmlecaaDoorCrcSealsWalk
import Derived.Test.YtjhpjhgofmlecaaDoorStore
namespace Go.Proofs.YtjhpjhgofmlecaaDoor
open Go.RowKit Go.Wag
set_option linter.unusedVariables false

theorem wf_b8 {n : Int} (h : (Lit.int .u8 n).wf = true) : ∃ s : UInt8, n = (s.toNat : Int) := by
  have := wf_u8 h
  refine ⟨UInt8.ofNat n.toNat, ?_⟩
  have e : (UInt8.ofNat n.toNat).toNat = n.toNat % 256 := by simp
  omega
theorem xor8 (c d : UInt8) : bits .xor .u8 (c.toNat : Int) (d.toNat : Int) = ((c ^^^ d).toNat : Int) := by
  rw [u8_xor_nat _ _ c.toNat_lt d.toNat_lt, UInt8.toNat_xor]
theorem set_v8 (l : List UInt8) (k : Nat) (d : UInt8) : (l.map v8).set k (.int .u8 (d.toNat : Int)) = (l.set k d).map v8 := by
  rw [List.map_set]; rfl
/-- A text of which one byte is changed has the same sum just if it is not. -/
theorem sum_set (l : List UInt8) (k : Nat) (hk : k < l.length) (d : UInt8) : (((moreF 0#32 (l.set k (l[k] ^^^ d))).toNat : Int) == ((moreF 0#32 l).toNat : Int)) = ((d.toNat : Int) == 0) := by
  rw [Bool.eq_iff_iff, beq_iff_eq, beq_iff_eq]
  constructor
  · intro h
    have h1 : moreF 0#32 (l.set k (l[k] ^^^ d)) = moreF 0#32 l := BitVec.eq_of_toNat_eq (by omega)
    unfold moreF at h1
    have h2 : raw (0#32 ^^^ ones) (l.set k (l[k] ^^^ d)) = raw (0#32 ^^^ ones) l := by
      have := congrArg (· ^^^ ones) h1
      simpa only [BitVec.xor_assoc, BitVec.xor_self, BitVec.xor_zero] using this
    rw [raw_set_ne hk h2]; rfl
  · intro h
    have : d = 0 := UInt8.toNat_inj.1 (by show d.toNat = 0; omega)
    subst this
    rw [UInt8.xor_zero, List.set_getElem_self]

end Go.Proofs.YtjhpjhgofmlecaaDoor
