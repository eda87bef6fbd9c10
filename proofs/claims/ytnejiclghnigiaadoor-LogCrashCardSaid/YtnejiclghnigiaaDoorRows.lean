/-
  NARROWER THAN 'FOR EVERY INPUT', by the rows' own cells (each row's printed sentence says how): LogRuns: laid · LogFinds: laid · LogKeeps: laid · LogFull: laid · LogCrash: laid · LogOrder: laid.
  DERIVED. THE GIVEN ROWS OF THIS SEAT. 6 by the template 'for every input the law returns true; each argument reads behind the call as it read before'; 0 by the template 'total and deterministic' (their statements: YtnejiclghnigiaaDoorTotals.lean).
  GIVEN WITH THE SEED: the statements are not yours to turn. If you find one false, say at which input.
  Laid BY PROGRAM, IN A SANDBOX (cutbox-rows.mjs): the forced cells as the released guide's own fill.sh prints them over the translation 63582b3f12a419f4… (all of the seat's roots in one cut). By AI agents, Wed Nov 11 2026. No macro, syntax, notation, axiom, sorry.
-/
import Derived.Test.YtnejiclghnigiaaDoorChecked
import GoSem.Claim
import GoSem.ClaimJoined
import GoSem.ClaimMapViews
import Derived.JoinedTies
import Derived.KernelRfl
namespace Go.Proofs.YtnejiclghnigiaaDoor
/- THE CELL 'sum', in the pinned program and in every row, IS THE sha256 OF THE DUMP (.gsa) THAT YtnejiclghnigiaaDoorProg.lean LOADS. Nothing in Lean hashes anything: it is a label: what it is worth is what the hold of that sum in a sandbox is worth. -/
noncomputable def Tryd.pinned : Pinned := { name := "ytnejiclghnigiaadoor", sum := "63582b3f12a419f44715150415e377ac0a68e3e7d0c9a1f3ba866a905c406462", checked := Tryd.checked }
namespace Rows
def none {H : Type} : Left H := { results := [], args := [] }

/- WHAT THE LISTED PACKAGE-LEVEL VARIABLES READ AS WHEN THE CALL BEGINS. Each datum BY PROGRAM (the guide's laid-datum.mjs) off the statement by which the dump's own 'gosem.cut.vars' lays the variable. In a bare row this is a premise. The card (YtnejiclghnigiaaDoorCards.lean) ties it to the program's text. -/
def laid_waggoner_crc_fourSteps {H : Type} : DataW H := .agg [.lit (.int .u32 0), .lit (.int .u32 274646895), .lit (.int .u32 549293790), .lit (.int .u32 820201905), .lit (.int .u32 1098587580), .lit (.int .u32 1361435347), .lit (.int .u32 1640403810), .lit (.int .u32 1905808397), .lit (.int .u32 2197175160), .lit (.int .u32 2460548119), .lit (.int .u32 2722870694), .lit (.int .u32 2987750089), .lit (.int .u32 3280807620), .lit (.int .u32 3553878443), .lit (.int .u32 3811616794), .lit (.int .u32 4084100981)]

/-- 'waggonerlaw06.LogRuns': WHATEVER THE INPUT: true; the input reads as it did. -/
def logRunsSpec : ChangeSpec := { name := "logRuns", fn := fun _ => fun
  | [d1, d2] => { results := [.lit (.bool true)], args := [d1, d2] }
  | _ => none }
def logRunsRow : OpenClaim := { program := "ytnejiclghnigiaadoor", sum := "63582b3f12a419f44715150415e377ac0a68e3e7d0c9a1f3ba866a905c406462", func := "waggoner/waggonerlaw06.LogRuns", spec := "logRuns", unfollowed := true, recurses := true, named := ["waggoner/crc.fourSteps"], apart := false, laid := [("waggoner/crc.fourSteps", laid_waggoner_crc_fourSteps)] }
def LogRunsSaid : Prop := logRunsRow.holds Tryd.pinned (OpenSpec.ofChange logRunsSpec)

/-- ITS FALSE NEIGHBOUR: 'it returns false'. Refute it at one input. -/
def logRunsWrong : ChangeSpec := { name := "logRuns", fn := fun _ => fun
  | [d1, d2] => { results := [.lit (.bool false)], args := [d1, d2] }
  | _ => none }
def LogRunsWrongFalsely : Prop := logRunsRow.holds Tryd.pinned (OpenSpec.ofChange logRunsWrong)

/-- 'waggonerlaw06.LogFinds': WHATEVER THE INPUT: true; the input reads as it did. -/
def logFindsSpec : ChangeSpec := { name := "logFinds", fn := fun _ => fun
  | [d] => { results := [.lit (.bool true)], args := [d] }
  | _ => none }
def logFindsRow : OpenClaim := { program := "ytnejiclghnigiaadoor", sum := "63582b3f12a419f44715150415e377ac0a68e3e7d0c9a1f3ba866a905c406462", func := "waggoner/waggonerlaw06.LogFinds", spec := "logFinds", unfollowed := true, recurses := true, named := ["waggoner/crc.fourSteps"], apart := false, laid := [("waggoner/crc.fourSteps", laid_waggoner_crc_fourSteps)] }
def LogFindsSaid : Prop := logFindsRow.holds Tryd.pinned (OpenSpec.ofChange logFindsSpec)

/-- ITS FALSE NEIGHBOUR: 'it returns false'. Refute it at one input. -/
def logFindsWrong : ChangeSpec := { name := "logFinds", fn := fun _ => fun
  | [d] => { results := [.lit (.bool false)], args := [d] }
  | _ => none }
def LogFindsWrongFalsely : Prop := logFindsRow.holds Tryd.pinned (OpenSpec.ofChange logFindsWrong)

/-- 'waggonerlaw06.LogKeeps': WHATEVER THE INPUT: true; the input reads as it did. -/
def logKeepsSpec : ChangeSpec := { name := "logKeeps", fn := fun _ => fun
  | [d1, d2] => { results := [.lit (.bool true)], args := [d1, d2] }
  | _ => none }
def logKeepsRow : OpenClaim := { program := "ytnejiclghnigiaadoor", sum := "63582b3f12a419f44715150415e377ac0a68e3e7d0c9a1f3ba866a905c406462", func := "waggoner/waggonerlaw06.LogKeeps", spec := "logKeeps", unfollowed := true, recurses := true, named := ["waggoner/crc.fourSteps"], apart := false, laid := [("waggoner/crc.fourSteps", laid_waggoner_crc_fourSteps)] }
def LogKeepsSaid : Prop := logKeepsRow.holds Tryd.pinned (OpenSpec.ofChange logKeepsSpec)

/-- ITS FALSE NEIGHBOUR: 'it returns false'. Refute it at one input. -/
def logKeepsWrong : ChangeSpec := { name := "logKeeps", fn := fun _ => fun
  | [d1, d2] => { results := [.lit (.bool false)], args := [d1, d2] }
  | _ => none }
def LogKeepsWrongFalsely : Prop := logKeepsRow.holds Tryd.pinned (OpenSpec.ofChange logKeepsWrong)

/-- 'waggonerlaw06.LogFull': WHATEVER THE INPUT: true; the input reads as it did. -/
def logFullSpec : ChangeSpec := { name := "logFull", fn := fun _ => fun
  | [d1, d2] => { results := [.lit (.bool true)], args := [d1, d2] }
  | _ => none }
def logFullRow : OpenClaim := { program := "ytnejiclghnigiaadoor", sum := "63582b3f12a419f44715150415e377ac0a68e3e7d0c9a1f3ba866a905c406462", func := "waggoner/waggonerlaw06.LogFull", spec := "logFull", unfollowed := true, recurses := true, named := ["waggoner/crc.fourSteps"], apart := false, laid := [("waggoner/crc.fourSteps", laid_waggoner_crc_fourSteps)] }
def LogFullSaid : Prop := logFullRow.holds Tryd.pinned (OpenSpec.ofChange logFullSpec)

/-- ITS FALSE NEIGHBOUR: 'it returns false'. Refute it at one input. -/
def logFullWrong : ChangeSpec := { name := "logFull", fn := fun _ => fun
  | [d1, d2] => { results := [.lit (.bool false)], args := [d1, d2] }
  | _ => none }
def LogFullWrongFalsely : Prop := logFullRow.holds Tryd.pinned (OpenSpec.ofChange logFullWrong)

/-- 'waggonerlaw06.LogCrash': WHATEVER THE INPUT: true; the input reads as it did. -/
def logCrashSpec : ChangeSpec := { name := "logCrash", fn := fun _ => fun
  | [d1, d2, d3] => { results := [.lit (.bool true)], args := [d1, d2, d3] }
  | _ => none }
def logCrashRow : OpenClaim := { program := "ytnejiclghnigiaadoor", sum := "63582b3f12a419f44715150415e377ac0a68e3e7d0c9a1f3ba866a905c406462", func := "waggoner/waggonerlaw06.LogCrash", spec := "logCrash", unfollowed := true, recurses := true, named := ["waggoner/crc.fourSteps"], apart := false, laid := [("waggoner/crc.fourSteps", laid_waggoner_crc_fourSteps)] }
def LogCrashSaid : Prop := logCrashRow.holds Tryd.pinned (OpenSpec.ofChange logCrashSpec)

/-- ITS FALSE NEIGHBOUR: 'it returns false'. Refute it at one input. -/
def logCrashWrong : ChangeSpec := { name := "logCrash", fn := fun _ => fun
  | [d1, d2, d3] => { results := [.lit (.bool false)], args := [d1, d2, d3] }
  | _ => none }
def LogCrashWrongFalsely : Prop := logCrashRow.holds Tryd.pinned (OpenSpec.ofChange logCrashWrong)

/-- 'waggonerlaw06.LogOrder': WHATEVER THE INPUT: true; the input reads as it did. -/
def logOrderSpec : ChangeSpec := { name := "logOrder", fn := fun _ => fun
  | [d1, d2, d3] => { results := [.lit (.bool true)], args := [d1, d2, d3] }
  | _ => none }
def logOrderRow : OpenClaim := { program := "ytnejiclghnigiaadoor", sum := "63582b3f12a419f44715150415e377ac0a68e3e7d0c9a1f3ba866a905c406462", func := "waggoner/waggonerlaw06.LogOrder", spec := "logOrder", unfollowed := true, recurses := true, named := ["waggoner/crc.fourSteps"], apart := false, laid := [("waggoner/crc.fourSteps", laid_waggoner_crc_fourSteps)] }
def LogOrderSaid : Prop := logOrderRow.holds Tryd.pinned (OpenSpec.ofChange logOrderSpec)

/-- ITS FALSE NEIGHBOUR: 'it returns false'. Refute it at one input. -/
def logOrderWrong : ChangeSpec := { name := "logOrder", fn := fun _ => fun
  | [d1, d2, d3] => { results := [.lit (.bool false)], args := [d1, d2, d3] }
  | _ => none }
def LogOrderWrongFalsely : Prop := logOrderRow.holds Tryd.pinned (OpenSpec.ofChange logOrderWrong)

/- THE SECOND FORM. 'bulk': how many values and letters a reading holds, each counted each time it is reached (what is shared counts as often as it is met; a slice's spare places count too). A statement '..UptoSaid' is the law's where the arguments, and the package variables that the reading takes, are together of bulk at most 1048576: NARROWER than '..Said'. Prove '..Said' where nothing that the law and all that it calls make is longer than what came in: it says more and counts as full. Else prove '..UptoSaid'. A law counts once. -/
mutual
def uptoBulk {H : Type} : DataW H → Nat
  | .lit (.string bytes) => bytes.length + 1
  | .lit _ => 1
  | .nil => 1
  | .ptr d => uptoBulk d + 1
  | .slice elems spare => uptoBulkAll elems + uptoBulkAll spare + 1
  | .agg parts => uptoBulkAll parts + 1
  | .iface _ d => uptoBulk d + 1
  | .map entries => uptoBulkEntries entries + 1
  | .held _ => 1
def uptoBulkAll {H : Type} : List (DataW H) → Nat
  | [] => 0
  | d :: r => uptoBulk d + uptoBulkAll r
def uptoBulkEntries {H : Type} : List (Lit × DataW H) → Nat
  | [] => 0
  | x :: r => uptoBulkEntry x + uptoBulkEntries r
def uptoBulkEntry {H : Type} : Lit × DataW H → Nat
  | (.string bytes, d) => bytes.length + uptoBulk d + 1
  | (_, d) => uptoBulk d + 1
 end
def uptoSmall : (H : Type) → List (DataW H) → Bool := fun _ ds => decide (uptoBulkAll ds ≤ 1048576)
def OpenSpec.upto (s : _root_.Go.ChangeSpec) : _root_.Go.OpenSpec := { _root_.Go.OpenSpec.ofChange s with cond := some uptoSmall }

/-- 'waggonerlaw06.LogRuns', WHERE WHAT IT READS IS OF BULK AT MOST 1048576: true; the input reads as it did. -/
def logRunsUptoRow : OpenClaim := { program := "ytnejiclghnigiaadoor", sum := "63582b3f12a419f44715150415e377ac0a68e3e7d0c9a1f3ba866a905c406462", func := "waggoner/waggonerlaw06.LogRuns", spec := "logRuns", unfollowed := true, recurses := true, named := ["waggoner/crc.fourSteps"], apart := false, laid := [("waggoner/crc.fourSteps", laid_waggoner_crc_fourSteps)], narrowed := true }
def LogRunsUptoSaid : Prop := logRunsUptoRow.holds Tryd.pinned (OpenSpec.upto logRunsSpec)

/-- 'waggonerlaw06.LogFinds', WHERE WHAT IT READS IS OF BULK AT MOST 1048576: true; the input reads as it did. -/
def logFindsUptoRow : OpenClaim := { program := "ytnejiclghnigiaadoor", sum := "63582b3f12a419f44715150415e377ac0a68e3e7d0c9a1f3ba866a905c406462", func := "waggoner/waggonerlaw06.LogFinds", spec := "logFinds", unfollowed := true, recurses := true, named := ["waggoner/crc.fourSteps"], apart := false, laid := [("waggoner/crc.fourSteps", laid_waggoner_crc_fourSteps)], narrowed := true }
def LogFindsUptoSaid : Prop := logFindsUptoRow.holds Tryd.pinned (OpenSpec.upto logFindsSpec)

/-- 'waggonerlaw06.LogKeeps', WHERE WHAT IT READS IS OF BULK AT MOST 1048576: true; the input reads as it did. -/
def logKeepsUptoRow : OpenClaim := { program := "ytnejiclghnigiaadoor", sum := "63582b3f12a419f44715150415e377ac0a68e3e7d0c9a1f3ba866a905c406462", func := "waggoner/waggonerlaw06.LogKeeps", spec := "logKeeps", unfollowed := true, recurses := true, named := ["waggoner/crc.fourSteps"], apart := false, laid := [("waggoner/crc.fourSteps", laid_waggoner_crc_fourSteps)], narrowed := true }
def LogKeepsUptoSaid : Prop := logKeepsUptoRow.holds Tryd.pinned (OpenSpec.upto logKeepsSpec)

/-- 'waggonerlaw06.LogFull', WHERE WHAT IT READS IS OF BULK AT MOST 1048576: true; the input reads as it did. -/
def logFullUptoRow : OpenClaim := { program := "ytnejiclghnigiaadoor", sum := "63582b3f12a419f44715150415e377ac0a68e3e7d0c9a1f3ba866a905c406462", func := "waggoner/waggonerlaw06.LogFull", spec := "logFull", unfollowed := true, recurses := true, named := ["waggoner/crc.fourSteps"], apart := false, laid := [("waggoner/crc.fourSteps", laid_waggoner_crc_fourSteps)], narrowed := true }
def LogFullUptoSaid : Prop := logFullUptoRow.holds Tryd.pinned (OpenSpec.upto logFullSpec)

/-- 'waggonerlaw06.LogCrash', WHERE WHAT IT READS IS OF BULK AT MOST 1048576: true; the input reads as it did. -/
def logCrashUptoRow : OpenClaim := { program := "ytnejiclghnigiaadoor", sum := "63582b3f12a419f44715150415e377ac0a68e3e7d0c9a1f3ba866a905c406462", func := "waggoner/waggonerlaw06.LogCrash", spec := "logCrash", unfollowed := true, recurses := true, named := ["waggoner/crc.fourSteps"], apart := false, laid := [("waggoner/crc.fourSteps", laid_waggoner_crc_fourSteps)], narrowed := true }
def LogCrashUptoSaid : Prop := logCrashUptoRow.holds Tryd.pinned (OpenSpec.upto logCrashSpec)

/-- 'waggonerlaw06.LogOrder', WHERE WHAT IT READS IS OF BULK AT MOST 1048576: true; the input reads as it did. -/
def logOrderUptoRow : OpenClaim := { program := "ytnejiclghnigiaadoor", sum := "63582b3f12a419f44715150415e377ac0a68e3e7d0c9a1f3ba866a905c406462", func := "waggoner/waggonerlaw06.LogOrder", spec := "logOrder", unfollowed := true, recurses := true, named := ["waggoner/crc.fourSteps"], apart := false, laid := [("waggoner/crc.fourSteps", laid_waggoner_crc_fourSteps)], narrowed := true }
def LogOrderUptoSaid : Prop := logOrderUptoRow.holds Tryd.pinned (OpenSpec.upto logOrderSpec)

end Rows
end Go.Proofs.YtnejiclghnigiaaDoor
