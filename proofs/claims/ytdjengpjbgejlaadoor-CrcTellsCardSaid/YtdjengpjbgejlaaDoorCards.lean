/-
  DERIVED. GIVEN WITH THE SEED: THE CARDS: each row of YtdjengpjbgejlaaDoorRows.lean that lists a variable, with what it lists TIED to the program's text (the seventh form; the later family's looks); each row that meets fmt, with fmt's text TOLD by the authors' own Lean function (tested against real Go, not proved from fmt's source: count such statements apart). THE CARD IS WHAT COUNTS. Prove the row's statement (the work); the ties are given (YtdjengpjbgejlaaDoorTie.lean); close each card by the builder's one call (the guide's Derived/Test/ToyasCard.lean, 'card_holds'). Laid BY PROGRAM, IN A SANDBOX (cutbox-door.mjs). By AI agents, Wed Nov 11 2026. No macro, syntax, notation, axiom, sorry.
-/
import Derived.Test.YtdjengpjbgejlaaDoorRows
import GoSem.ClaimSeven
namespace Go.Proofs.YtdjengpjbgejlaaDoor
namespace Rows

/-- THE TIED CARD OF 'waggonerlaw02.CrcTells'. -/
def crcTellsCard : Claim7 := { stood := { row := crcTellsRow, standIns := [], harness := (true, "499fd00cbde67ced9765b6d7091df1b8dfa3e713a710edb317d6906d49d6f95b"), looks := false }, kinds := [], alts := [], laidByText := true, laidKinds := [.data], laidTests := true, laidLooks := .later }
def CrcTellsCardSaid : Prop := Claim7.holds Tryd.pinned (.plain (OpenSpec.ofChange crcTellsSpec)) crcTellsCard

/-- THE TIED CARD OF 'waggonerlaw02.CrcGoes'. -/
def crcGoesCard : Claim7 := { stood := { row := crcGoesRow, standIns := [], harness := (true, "499fd00cbde67ced9765b6d7091df1b8dfa3e713a710edb317d6906d49d6f95b"), looks := false }, kinds := [], alts := [], laidByText := true, laidKinds := [.data], laidTests := true, laidLooks := .later }
def CrcGoesCardSaid : Prop := Claim7.holds Tryd.pinned (.plain (OpenSpec.ofChange crcGoesSpec)) crcGoesCard

/-- THE TIED CARD OF 'waggonerlaw02.CrcBurst'. -/
def crcBurstCard : Claim7 := { stood := { row := crcBurstRow, standIns := [], harness := (true, "499fd00cbde67ced9765b6d7091df1b8dfa3e713a710edb317d6906d49d6f95b"), looks := false }, kinds := [], alts := [], laidByText := true, laidKinds := [.data], laidTests := true, laidLooks := .later }
def CrcBurstCardSaid : Prop := Claim7.holds Tryd.pinned (.plain (OpenSpec.ofChange crcBurstSpec)) crcBurstCard

/-- THE TIED CARD OF 'waggonerlaw02.CrcLinear'. -/
def crcLinearCard : Claim7 := { stood := { row := crcLinearRow, standIns := [], harness := (true, "499fd00cbde67ced9765b6d7091df1b8dfa3e713a710edb317d6906d49d6f95b"), looks := false }, kinds := [], alts := [], laidByText := true, laidKinds := [.data], laidTests := true, laidLooks := .later }
def CrcLinearCardSaid : Prop := Claim7.holds Tryd.pinned (.plain (OpenSpec.ofChange crcLinearSpec)) crcLinearCard

/-- THE TIED CARD OF 'waggonerlaw02.CrcSeals'. -/
def crcSealsCard : Claim7 := { stood := { row := crcSealsRow, standIns := [], harness := (true, "499fd00cbde67ced9765b6d7091df1b8dfa3e713a710edb317d6906d49d6f95b"), looks := false }, kinds := [], alts := [], laidByText := true, laidKinds := [.data], laidTests := true, laidLooks := .later }
def CrcSealsCardSaid : Prop := Claim7.holds Tryd.pinned (.plain (OpenSpec.ofChange crcSealsSpec)) crcSealsCard

/-- THE TIED CARD OF 'waggonerlaw02.CrcNone'. -/
def crcNoneCard : Claim7 := { stood := { row := crcNoneRow, standIns := [], harness := (true, "499fd00cbde67ced9765b6d7091df1b8dfa3e713a710edb317d6906d49d6f95b"), looks := false }, kinds := [], alts := [], laidByText := true, laidKinds := [.data], laidTests := true, laidLooks := .later }
def CrcNoneCardSaid : Prop := Claim7.holds Tryd.pinned (.plain (OpenSpec.ofChange crcNoneSpec)) crcNoneCard

/-- THE SECOND FORM's CARD OF 'waggonerlaw02.CrcTells'. -/
def crcTellsUptoCard : Claim7 := { stood := { row := crcTellsUptoRow, standIns := [], harness := (true, "499fd00cbde67ced9765b6d7091df1b8dfa3e713a710edb317d6906d49d6f95b"), looks := false }, kinds := [], alts := [], laidByText := true, laidKinds := [.data], laidTests := true, laidLooks := .later }
def CrcTellsUptoCardSaid : Prop := Claim7.holds Tryd.pinned (.plain (OpenSpec.upto crcTellsSpec)) crcTellsUptoCard

/-- THE SECOND FORM's CARD OF 'waggonerlaw02.CrcGoes'. -/
def crcGoesUptoCard : Claim7 := { stood := { row := crcGoesUptoRow, standIns := [], harness := (true, "499fd00cbde67ced9765b6d7091df1b8dfa3e713a710edb317d6906d49d6f95b"), looks := false }, kinds := [], alts := [], laidByText := true, laidKinds := [.data], laidTests := true, laidLooks := .later }
def CrcGoesUptoCardSaid : Prop := Claim7.holds Tryd.pinned (.plain (OpenSpec.upto crcGoesSpec)) crcGoesUptoCard

/-- THE SECOND FORM's CARD OF 'waggonerlaw02.CrcBurst'. -/
def crcBurstUptoCard : Claim7 := { stood := { row := crcBurstUptoRow, standIns := [], harness := (true, "499fd00cbde67ced9765b6d7091df1b8dfa3e713a710edb317d6906d49d6f95b"), looks := false }, kinds := [], alts := [], laidByText := true, laidKinds := [.data], laidTests := true, laidLooks := .later }
def CrcBurstUptoCardSaid : Prop := Claim7.holds Tryd.pinned (.plain (OpenSpec.upto crcBurstSpec)) crcBurstUptoCard

/-- THE SECOND FORM's CARD OF 'waggonerlaw02.CrcLinear'. -/
def crcLinearUptoCard : Claim7 := { stood := { row := crcLinearUptoRow, standIns := [], harness := (true, "499fd00cbde67ced9765b6d7091df1b8dfa3e713a710edb317d6906d49d6f95b"), looks := false }, kinds := [], alts := [], laidByText := true, laidKinds := [.data], laidTests := true, laidLooks := .later }
def CrcLinearUptoCardSaid : Prop := Claim7.holds Tryd.pinned (.plain (OpenSpec.upto crcLinearSpec)) crcLinearUptoCard

/-- THE SECOND FORM's CARD OF 'waggonerlaw02.CrcSeals'. -/
def crcSealsUptoCard : Claim7 := { stood := { row := crcSealsUptoRow, standIns := [], harness := (true, "499fd00cbde67ced9765b6d7091df1b8dfa3e713a710edb317d6906d49d6f95b"), looks := false }, kinds := [], alts := [], laidByText := true, laidKinds := [.data], laidTests := true, laidLooks := .later }
def CrcSealsUptoCardSaid : Prop := Claim7.holds Tryd.pinned (.plain (OpenSpec.upto crcSealsSpec)) crcSealsUptoCard

/-- THE SECOND FORM's CARD OF 'waggonerlaw02.CrcNone'. -/
def crcNoneUptoCard : Claim7 := { stood := { row := crcNoneUptoRow, standIns := [], harness := (true, "499fd00cbde67ced9765b6d7091df1b8dfa3e713a710edb317d6906d49d6f95b"), looks := false }, kinds := [], alts := [], laidByText := true, laidKinds := [.data], laidTests := true, laidLooks := .later }
def CrcNoneUptoCardSaid : Prop := Claim7.holds Tryd.pinned (.plain (OpenSpec.upto crcNoneSpec)) crcNoneUptoCard
end Rows
end Go.Proofs.YtdjengpjbgejlaaDoor
