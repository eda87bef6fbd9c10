/-
  A drawn region, driven by hand: the condition that is kept may be made stronger midway. No program is named here.
-/
import Derived.Deep.RegionHeld
import Derived.Below
namespace Go.Wag
open Go.RowKit

theorem wpAnyH_stronger {P : Program} {md : Region.Mode} {ops : Array Oper} {Q : Exit → Act → World → Prop} {S S' : World → Prop} (h : ∀ w, S' w → S w) :
    ∀ (fuel : Nat) (listed : Array Bool) (a : Act) (w : World), wpAnyH P md ops Q S' fuel listed a w → wpAnyH P md ops Q S fuel listed a w
  | 0, _, _, _, hw => hw
  | fuel + 1, _, _, _, hw => ⟨hw.1, fun i hi => wpOp_mono (fun a' w' h' => ⟨h w' h'.1, wpAnyH_stronger h fuel _ a' w' h'.2⟩) (hw.2 i hi)⟩
end Go.Wag
