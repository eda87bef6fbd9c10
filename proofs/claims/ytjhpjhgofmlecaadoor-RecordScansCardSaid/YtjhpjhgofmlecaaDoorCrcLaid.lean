/-
  From the row's condition (the table's variable reads as listed) to what the walks ask; the door's own heap meets it.
-/
import Derived.Test.YtjhpjhgofmlecaaDoorCrcFns
import Derived.ProofKit
import Derived.LaidMore
import Derived.Stop.Joined
import Derived.Lib.LaidTab
namespace Go.Proofs.YtjhpjhgofmlecaaDoor
open Go.RowKit Go.Wag

theorem gTab : Tryd.prog.globalNamed "waggoner/crc.fourSteps" = some 0 := by kernel_rfl
theorem gTabT : (Tryd.prog.globals[0]?).map (·.type) = some 72 := by kernel_rfl
theorem tab_of_laid {W : World} (h : laidMetH Tryd.prog [("waggoner/crc.fourSteps", Rows.laid_waggoner_crc_fourSteps)] W) : Tab W := by
  rw [MakeChecks.laidMetH_plain _ _ _ (by kernel_rfl)] at h
  have hT : Lib.TabIs Tryd.prog W "waggoner/crc.fourSteps" .u32 tab16 :=
    Lib.tabIs_of_head (rest := []) gTab gTabT Tryd.underlying72 Tryd.underlying62 (by kernel_rfl) (by kernel_rfl) h
  intro i hi
  exact hT.cell gTab i hi
theorem door_met (os : Os) (args : Array Value) : laidMetH Tryd.prog [("waggoner/crc.fourSteps", Rows.laid_waggoner_crc_fourSteps)] ((World.doorLaid Tryd.prog 400 os).forCall (fun _ _ => 0) ⟨#[], args, []⟩).memory :=
  laidMetH_of_parts3 (fuel := 8) (laidMet_of_run' 8 (by kernel_rfl) (by kernel_rfl)) (by kernel_rfl) (by kernel_rfl)
end Go.Proofs.YtjhpjhgofmlecaaDoor
