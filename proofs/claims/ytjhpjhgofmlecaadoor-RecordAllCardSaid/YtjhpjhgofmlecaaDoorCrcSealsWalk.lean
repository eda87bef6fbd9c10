/-
  The walk of CrcSeals.
-/
import Derived.Test.YtjhpjhgofmlecaaDoorCrcGoesWalk
namespace Go.Proofs.YtjhpjhgofmlecaaDoor
open Go.RowKit Go.Wag
set_option linter.unusedVariables false

theorem Tab.drewN {w : World} (hT : Tab w) (n : Nat) : Tab (w.drewN n) := hT
theorem Sum_quiet (A : Option Addr) (n c : Nat) (l : List UInt8) (v : Int) (hv : ((moreF 0#32 l).toNat : Int) = v) (w : World) (hT : Tab w) (h : Sl w A n c (l.map v8)) (k : Nat) :
    Calls Tryd.prog 36 #[.slice A n c] (w.drewN k) fun e w' => e = .returned (.int .u32 v) ∧ w' = w.drewN k :=
  (Sum_num A n c l v hv _ (hT.drewN k) (h.drewN k)).mono fun e w' ⟨he, hw⟩ => ⟨he, hw.symm⟩
theorem len_join2 (n m : Nat) (h : ¬ (300 : Int) < (n : Int)) (h2 : ¬ (300 : Int) < (m : Int)) : min (max ((n : Int) + (m : Int)) 0) 1073741824 = ((n + m : Nat) : Int) := by omega

end Go.Proofs.YtjhpjhgofmlecaaDoor
