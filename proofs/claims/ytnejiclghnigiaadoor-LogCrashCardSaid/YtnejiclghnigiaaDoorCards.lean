/-
  DERIVED. GIVEN WITH THE SEED: THE CARDS: each row of YtnejiclghnigiaaDoorRows.lean that lists a variable, with what it lists TIED to the program's text (the seventh form; the later family's looks); each row that meets fmt, with fmt's text TOLD by the authors' own Lean function (tested against real Go, not proved from fmt's source: count such statements apart). THE CARD IS WHAT COUNTS. Prove the row's statement (the work); the ties are given (YtnejiclghnigiaaDoorTie.lean); close each card by the builder's one call (the guide's Derived/Test/ToyasCard.lean, 'card_holds'). Laid BY PROGRAM, IN A SANDBOX (cutbox-door.mjs). By AI agents, Wed Nov 11 2026. No macro, syntax, notation, axiom, sorry.
-/
import Derived.Test.YtnejiclghnigiaaDoorRows
import GoSem.ClaimSeven
namespace Go.Proofs.YtnejiclghnigiaaDoor
namespace Rows

/-- THE TIED CARD OF 'waggonerlaw06.LogRuns'. -/
def logRunsCard : Claim7 := { stood := { row := logRunsRow, standIns := [], harness := (true, "1b06cfe5276407fd5b1e8cc902bbf8e921c0e8f5695bafe1c988d1b1852e71f1"), looks := false }, kinds := [], alts := [], laidByText := true, laidKinds := [.data], laidTests := true, laidLooks := .later }
def LogRunsCardSaid : Prop := Claim7.holds Tryd.pinned (.plain (OpenSpec.ofChange logRunsSpec)) logRunsCard

/-- THE TIED CARD OF 'waggonerlaw06.LogFinds'. -/
def logFindsCard : Claim7 := { stood := { row := logFindsRow, standIns := [], harness := (true, "1b06cfe5276407fd5b1e8cc902bbf8e921c0e8f5695bafe1c988d1b1852e71f1"), looks := false }, kinds := [], alts := [], laidByText := true, laidKinds := [.data], laidTests := true, laidLooks := .later }
def LogFindsCardSaid : Prop := Claim7.holds Tryd.pinned (.plain (OpenSpec.ofChange logFindsSpec)) logFindsCard

/-- THE TIED CARD OF 'waggonerlaw06.LogKeeps'. -/
def logKeepsCard : Claim7 := { stood := { row := logKeepsRow, standIns := [], harness := (true, "1b06cfe5276407fd5b1e8cc902bbf8e921c0e8f5695bafe1c988d1b1852e71f1"), looks := false }, kinds := [], alts := [], laidByText := true, laidKinds := [.data], laidTests := true, laidLooks := .later }
def LogKeepsCardSaid : Prop := Claim7.holds Tryd.pinned (.plain (OpenSpec.ofChange logKeepsSpec)) logKeepsCard

/-- THE TIED CARD OF 'waggonerlaw06.LogFull'. -/
def logFullCard : Claim7 := { stood := { row := logFullRow, standIns := [], harness := (true, "1b06cfe5276407fd5b1e8cc902bbf8e921c0e8f5695bafe1c988d1b1852e71f1"), looks := false }, kinds := [], alts := [], laidByText := true, laidKinds := [.data], laidTests := true, laidLooks := .later }
def LogFullCardSaid : Prop := Claim7.holds Tryd.pinned (.plain (OpenSpec.ofChange logFullSpec)) logFullCard

/-- THE TIED CARD OF 'waggonerlaw06.LogCrash'. -/
def logCrashCard : Claim7 := { stood := { row := logCrashRow, standIns := [], harness := (true, "1b06cfe5276407fd5b1e8cc902bbf8e921c0e8f5695bafe1c988d1b1852e71f1"), looks := false }, kinds := [], alts := [], laidByText := true, laidKinds := [.data], laidTests := true, laidLooks := .later }
def LogCrashCardSaid : Prop := Claim7.holds Tryd.pinned (.plain (OpenSpec.ofChange logCrashSpec)) logCrashCard

/-- THE TIED CARD OF 'waggonerlaw06.LogOrder'. -/
def logOrderCard : Claim7 := { stood := { row := logOrderRow, standIns := [], harness := (true, "1b06cfe5276407fd5b1e8cc902bbf8e921c0e8f5695bafe1c988d1b1852e71f1"), looks := false }, kinds := [], alts := [], laidByText := true, laidKinds := [.data], laidTests := true, laidLooks := .later }
def LogOrderCardSaid : Prop := Claim7.holds Tryd.pinned (.plain (OpenSpec.ofChange logOrderSpec)) logOrderCard

/-- THE SECOND FORM's CARD OF 'waggonerlaw06.LogRuns'. -/
def logRunsUptoCard : Claim7 := { stood := { row := logRunsUptoRow, standIns := [], harness := (true, "1b06cfe5276407fd5b1e8cc902bbf8e921c0e8f5695bafe1c988d1b1852e71f1"), looks := false }, kinds := [], alts := [], laidByText := true, laidKinds := [.data], laidTests := true, laidLooks := .later }
def LogRunsUptoCardSaid : Prop := Claim7.holds Tryd.pinned (.plain (OpenSpec.upto logRunsSpec)) logRunsUptoCard

/-- THE SECOND FORM's CARD OF 'waggonerlaw06.LogFinds'. -/
def logFindsUptoCard : Claim7 := { stood := { row := logFindsUptoRow, standIns := [], harness := (true, "1b06cfe5276407fd5b1e8cc902bbf8e921c0e8f5695bafe1c988d1b1852e71f1"), looks := false }, kinds := [], alts := [], laidByText := true, laidKinds := [.data], laidTests := true, laidLooks := .later }
def LogFindsUptoCardSaid : Prop := Claim7.holds Tryd.pinned (.plain (OpenSpec.upto logFindsSpec)) logFindsUptoCard

/-- THE SECOND FORM's CARD OF 'waggonerlaw06.LogKeeps'. -/
def logKeepsUptoCard : Claim7 := { stood := { row := logKeepsUptoRow, standIns := [], harness := (true, "1b06cfe5276407fd5b1e8cc902bbf8e921c0e8f5695bafe1c988d1b1852e71f1"), looks := false }, kinds := [], alts := [], laidByText := true, laidKinds := [.data], laidTests := true, laidLooks := .later }
def LogKeepsUptoCardSaid : Prop := Claim7.holds Tryd.pinned (.plain (OpenSpec.upto logKeepsSpec)) logKeepsUptoCard

/-- THE SECOND FORM's CARD OF 'waggonerlaw06.LogFull'. -/
def logFullUptoCard : Claim7 := { stood := { row := logFullUptoRow, standIns := [], harness := (true, "1b06cfe5276407fd5b1e8cc902bbf8e921c0e8f5695bafe1c988d1b1852e71f1"), looks := false }, kinds := [], alts := [], laidByText := true, laidKinds := [.data], laidTests := true, laidLooks := .later }
def LogFullUptoCardSaid : Prop := Claim7.holds Tryd.pinned (.plain (OpenSpec.upto logFullSpec)) logFullUptoCard

/-- THE SECOND FORM's CARD OF 'waggonerlaw06.LogCrash'. -/
def logCrashUptoCard : Claim7 := { stood := { row := logCrashUptoRow, standIns := [], harness := (true, "1b06cfe5276407fd5b1e8cc902bbf8e921c0e8f5695bafe1c988d1b1852e71f1"), looks := false }, kinds := [], alts := [], laidByText := true, laidKinds := [.data], laidTests := true, laidLooks := .later }
def LogCrashUptoCardSaid : Prop := Claim7.holds Tryd.pinned (.plain (OpenSpec.upto logCrashSpec)) logCrashUptoCard

/-- THE SECOND FORM's CARD OF 'waggonerlaw06.LogOrder'. -/
def logOrderUptoCard : Claim7 := { stood := { row := logOrderUptoRow, standIns := [], harness := (true, "1b06cfe5276407fd5b1e8cc902bbf8e921c0e8f5695bafe1c988d1b1852e71f1"), looks := false }, kinds := [], alts := [], laidByText := true, laidKinds := [.data], laidTests := true, laidLooks := .later }
def LogOrderUptoCardSaid : Prop := Claim7.holds Tryd.pinned (.plain (OpenSpec.upto logOrderSpec)) logOrderUptoCard
end Rows
end Go.Proofs.YtnejiclghnigiaaDoor
