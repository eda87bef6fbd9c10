/-
  NARROWER THAN 'FOR EVERY INPUT', by the rows' own cells (each row's printed sentence says how): RecordNames: laid · RecordTells: laid · RecordScans: laid · RecordAll: laid · RecordApart: laid · RecordSizes: laid.
  DERIVED. THE GIVEN ROWS OF THIS SEAT. 6 by the template 'for every input the law returns true; each argument reads behind the call as it read before'; 0 by the template 'total and deterministic' (their statements: YtjhpjhgofmlecaaDoorTotals.lean).
  GIVEN WITH THE SEED: the statements are not yours to turn. If you find one false, say at which input.
  Laid BY PROGRAM, IN A SANDBOX (cutbox-rows.mjs): the forced cells as the released guide's own fill.sh prints them over the translation 2239d1fbb90c3749… (all of the seat's roots in one cut). By AI agents, Wed Nov 11 2026. No macro, syntax, notation, axiom, sorry.
-/
import Derived.Test.YtjhpjhgofmlecaaDoorChecked
import GoSem.Claim
import GoSem.ClaimJoined
import GoSem.ClaimMapViews
import Derived.JoinedTies
import Derived.KernelRfl
namespace Go.Proofs.YtjhpjhgofmlecaaDoor
/- THE CELL 'sum', in the pinned program and in every row, IS THE sha256 OF THE DUMP (.gsa) THAT YtjhpjhgofmlecaaDoorProg.lean LOADS. Nothing in Lean hashes anything: it is a label: what it is worth is what the hold of that sum in a sandbox is worth. -/
noncomputable def Tryd.pinned : Pinned := { name := "ytjhpjhgofmlecaadoor", sum := "2239d1fbb90c374900656eb8dac073104f1e2302da17851b074ed7adab77ae0a", checked := Tryd.checked }
namespace Rows
def none {H : Type} : Left H := { results := [], args := [] }

/- WHAT THE LISTED PACKAGE-LEVEL VARIABLES READ AS WHEN THE CALL BEGINS. Each datum BY PROGRAM (the guide's laid-datum.mjs) off the statement by which the dump's own 'gosem.cut.vars' lays the variable. In a bare row this is a premise. The card (YtjhpjhgofmlecaaDoorCards.lean) ties it to the program's text. -/
def laid_waggoner_crc_fourSteps {H : Type} : DataW H := .agg [.lit (.int .u32 0), .lit (.int .u32 274646895), .lit (.int .u32 549293790), .lit (.int .u32 820201905), .lit (.int .u32 1098587580), .lit (.int .u32 1361435347), .lit (.int .u32 1640403810), .lit (.int .u32 1905808397), .lit (.int .u32 2197175160), .lit (.int .u32 2460548119), .lit (.int .u32 2722870694), .lit (.int .u32 2987750089), .lit (.int .u32 3280807620), .lit (.int .u32 3553878443), .lit (.int .u32 3811616794), .lit (.int .u32 4084100981)]

/-- 'waggonerlaw05.RecordNames': WHATEVER THE INPUT: true; the input reads as it did. -/
def recordNamesSpec : ChangeSpec := { name := "recordNames", fn := fun _ => fun
  | [] => { results := [.lit (.bool true)], args := [] }
  | _ => none }
def recordNamesRow : OpenClaim := { program := "ytjhpjhgofmlecaadoor", sum := "2239d1fbb90c374900656eb8dac073104f1e2302da17851b074ed7adab77ae0a", func := "waggoner/waggonerlaw05.RecordNames", spec := "recordNames", unfollowed := true, recurses := true, named := ["waggoner/crc.fourSteps"], apart := false, laid := [("waggoner/crc.fourSteps", laid_waggoner_crc_fourSteps)] }
def RecordNamesSaid : Prop := recordNamesRow.holds Tryd.pinned (OpenSpec.ofChange recordNamesSpec)

/-- ITS FALSE NEIGHBOUR: 'it returns false'. Refute it at one input. -/
def recordNamesWrong : ChangeSpec := { name := "recordNames", fn := fun _ => fun
  | [] => { results := [.lit (.bool false)], args := [] }
  | _ => none }
def RecordNamesWrongFalsely : Prop := recordNamesRow.holds Tryd.pinned (OpenSpec.ofChange recordNamesWrong)

/-- 'waggonerlaw05.RecordTells': WHATEVER THE INPUT: true; the input reads as it did. -/
def recordTellsSpec : ChangeSpec := { name := "recordTells", fn := fun _ => fun
  | [d1, d2, d3] => { results := [.lit (.bool true)], args := [d1, d2, d3] }
  | _ => none }
def recordTellsRow : OpenClaim := { program := "ytjhpjhgofmlecaadoor", sum := "2239d1fbb90c374900656eb8dac073104f1e2302da17851b074ed7adab77ae0a", func := "waggoner/waggonerlaw05.RecordTells", spec := "recordTells", unfollowed := true, recurses := true, named := ["waggoner/crc.fourSteps"], apart := false, laid := [("waggoner/crc.fourSteps", laid_waggoner_crc_fourSteps)] }
def RecordTellsSaid : Prop := recordTellsRow.holds Tryd.pinned (OpenSpec.ofChange recordTellsSpec)

/-- ITS FALSE NEIGHBOUR: 'it returns false'. Refute it at one input. -/
def recordTellsWrong : ChangeSpec := { name := "recordTells", fn := fun _ => fun
  | [d1, d2, d3] => { results := [.lit (.bool false)], args := [d1, d2, d3] }
  | _ => none }
def RecordTellsWrongFalsely : Prop := recordTellsRow.holds Tryd.pinned (OpenSpec.ofChange recordTellsWrong)

/-- 'waggonerlaw05.RecordScans': WHATEVER THE INPUT: true; the input reads as it did. -/
def recordScansSpec : ChangeSpec := { name := "recordScans", fn := fun _ => fun
  | [d] => { results := [.lit (.bool true)], args := [d] }
  | _ => none }
def recordScansRow : OpenClaim := { program := "ytjhpjhgofmlecaadoor", sum := "2239d1fbb90c374900656eb8dac073104f1e2302da17851b074ed7adab77ae0a", func := "waggoner/waggonerlaw05.RecordScans", spec := "recordScans", unfollowed := true, recurses := true, named := ["waggoner/crc.fourSteps"], apart := false, laid := [("waggoner/crc.fourSteps", laid_waggoner_crc_fourSteps)] }
def RecordScansSaid : Prop := recordScansRow.holds Tryd.pinned (OpenSpec.ofChange recordScansSpec)

/-- ITS FALSE NEIGHBOUR: 'it returns false'. Refute it at one input. -/
def recordScansWrong : ChangeSpec := { name := "recordScans", fn := fun _ => fun
  | [d] => { results := [.lit (.bool false)], args := [d] }
  | _ => none }
def RecordScansWrongFalsely : Prop := recordScansRow.holds Tryd.pinned (OpenSpec.ofChange recordScansWrong)

/-- 'waggonerlaw05.RecordAll': WHATEVER THE INPUT: true; the input reads as it did. -/
def recordAllSpec : ChangeSpec := { name := "recordAll", fn := fun _ => fun
  | [d1, d2] => { results := [.lit (.bool true)], args := [d1, d2] }
  | _ => none }
def recordAllRow : OpenClaim := { program := "ytjhpjhgofmlecaadoor", sum := "2239d1fbb90c374900656eb8dac073104f1e2302da17851b074ed7adab77ae0a", func := "waggoner/waggonerlaw05.RecordAll", spec := "recordAll", unfollowed := true, recurses := true, named := ["waggoner/crc.fourSteps"], apart := false, laid := [("waggoner/crc.fourSteps", laid_waggoner_crc_fourSteps)] }
def RecordAllSaid : Prop := recordAllRow.holds Tryd.pinned (OpenSpec.ofChange recordAllSpec)

/-- ITS FALSE NEIGHBOUR: 'it returns false'. Refute it at one input. -/
def recordAllWrong : ChangeSpec := { name := "recordAll", fn := fun _ => fun
  | [d1, d2] => { results := [.lit (.bool false)], args := [d1, d2] }
  | _ => none }
def RecordAllWrongFalsely : Prop := recordAllRow.holds Tryd.pinned (OpenSpec.ofChange recordAllWrong)

/-- 'waggonerlaw05.RecordApart': WHATEVER THE INPUT: true; the input reads as it did. -/
def recordApartSpec : ChangeSpec := { name := "recordApart", fn := fun _ => fun
  | [d1, d2] => { results := [.lit (.bool true)], args := [d1, d2] }
  | _ => none }
def recordApartRow : OpenClaim := { program := "ytjhpjhgofmlecaadoor", sum := "2239d1fbb90c374900656eb8dac073104f1e2302da17851b074ed7adab77ae0a", func := "waggoner/waggonerlaw05.RecordApart", spec := "recordApart", unfollowed := true, recurses := true, named := ["waggoner/crc.fourSteps"], apart := false, laid := [("waggoner/crc.fourSteps", laid_waggoner_crc_fourSteps)] }
def RecordApartSaid : Prop := recordApartRow.holds Tryd.pinned (OpenSpec.ofChange recordApartSpec)

/-- ITS FALSE NEIGHBOUR: 'it returns false'. Refute it at one input. -/
def recordApartWrong : ChangeSpec := { name := "recordApart", fn := fun _ => fun
  | [d1, d2] => { results := [.lit (.bool false)], args := [d1, d2] }
  | _ => none }
def RecordApartWrongFalsely : Prop := recordApartRow.holds Tryd.pinned (OpenSpec.ofChange recordApartWrong)

/-- 'waggonerlaw05.RecordSizes': WHATEVER THE INPUT: true; the input reads as it did. -/
def recordSizesSpec : ChangeSpec := { name := "recordSizes", fn := fun _ => fun
  | [d1, d2] => { results := [.lit (.bool true)], args := [d1, d2] }
  | _ => none }
def recordSizesRow : OpenClaim := { program := "ytjhpjhgofmlecaadoor", sum := "2239d1fbb90c374900656eb8dac073104f1e2302da17851b074ed7adab77ae0a", func := "waggoner/waggonerlaw05.RecordSizes", spec := "recordSizes", unfollowed := true, recurses := true, named := ["waggoner/crc.fourSteps"], apart := false, laid := [("waggoner/crc.fourSteps", laid_waggoner_crc_fourSteps)] }
def RecordSizesSaid : Prop := recordSizesRow.holds Tryd.pinned (OpenSpec.ofChange recordSizesSpec)

/-- ITS FALSE NEIGHBOUR: 'it returns false'. Refute it at one input. -/
def recordSizesWrong : ChangeSpec := { name := "recordSizes", fn := fun _ => fun
  | [d1, d2] => { results := [.lit (.bool false)], args := [d1, d2] }
  | _ => none }
def RecordSizesWrongFalsely : Prop := recordSizesRow.holds Tryd.pinned (OpenSpec.ofChange recordSizesWrong)

/- THE SECOND FORM. 'bulk': how many values and letters a reading holds, each counted each time it is reached (what is shared counts as often as it is met; a slice's spare places count too). A statement '..UptoSaid' is the law's where the arguments, and the package variables that the reading takes, are together of bulk at most 1048576: NARROWER than '..Said'. Prove '..Said' where nothing that the law and all that it calls make is longer than what came in: it says more and counts as full. Else prove '..UptoSaid'. A law counts once. -/
mutual
def uptoBulk {H : Type} : DataW H → Nat
  | .lit (.string bytes) => bytes.length + 1
  | .lit _ => 1
  | .nil => 1
  | .ptr d => uptoBulk d + 1
  | .slice elems spare => uptoBulkAll elems + uptoBulkAll spare + 1
  | .agg parts => uptoBulkAll parts + 1
  | .iface _ d => uptoBulk d + 1
  | .map entries => uptoBulkEntries entries + 1
  | .held _ => 1
def uptoBulkAll {H : Type} : List (DataW H) → Nat
  | [] => 0
  | d :: r => uptoBulk d + uptoBulkAll r
def uptoBulkEntries {H : Type} : List (Lit × DataW H) → Nat
  | [] => 0
  | x :: r => uptoBulkEntry x + uptoBulkEntries r
def uptoBulkEntry {H : Type} : Lit × DataW H → Nat
  | (.string bytes, d) => bytes.length + uptoBulk d + 1
  | (_, d) => uptoBulk d + 1
 end
def uptoSmall : (H : Type) → List (DataW H) → Bool := fun _ ds => decide (uptoBulkAll ds ≤ 1048576)
def OpenSpec.upto (s : _root_.Go.ChangeSpec) : _root_.Go.OpenSpec := { _root_.Go.OpenSpec.ofChange s with cond := some uptoSmall }

/-- 'waggonerlaw05.RecordNames', WHERE WHAT IT READS IS OF BULK AT MOST 1048576: true; the input reads as it did. -/
def recordNamesUptoRow : OpenClaim := { program := "ytjhpjhgofmlecaadoor", sum := "2239d1fbb90c374900656eb8dac073104f1e2302da17851b074ed7adab77ae0a", func := "waggoner/waggonerlaw05.RecordNames", spec := "recordNames", unfollowed := true, recurses := true, named := ["waggoner/crc.fourSteps"], apart := false, laid := [("waggoner/crc.fourSteps", laid_waggoner_crc_fourSteps)], narrowed := true }
def RecordNamesUptoSaid : Prop := recordNamesUptoRow.holds Tryd.pinned (OpenSpec.upto recordNamesSpec)

/-- 'waggonerlaw05.RecordTells', WHERE WHAT IT READS IS OF BULK AT MOST 1048576: true; the input reads as it did. -/
def recordTellsUptoRow : OpenClaim := { program := "ytjhpjhgofmlecaadoor", sum := "2239d1fbb90c374900656eb8dac073104f1e2302da17851b074ed7adab77ae0a", func := "waggoner/waggonerlaw05.RecordTells", spec := "recordTells", unfollowed := true, recurses := true, named := ["waggoner/crc.fourSteps"], apart := false, laid := [("waggoner/crc.fourSteps", laid_waggoner_crc_fourSteps)], narrowed := true }
def RecordTellsUptoSaid : Prop := recordTellsUptoRow.holds Tryd.pinned (OpenSpec.upto recordTellsSpec)

/-- 'waggonerlaw05.RecordScans', WHERE WHAT IT READS IS OF BULK AT MOST 1048576: true; the input reads as it did. -/
def recordScansUptoRow : OpenClaim := { program := "ytjhpjhgofmlecaadoor", sum := "2239d1fbb90c374900656eb8dac073104f1e2302da17851b074ed7adab77ae0a", func := "waggoner/waggonerlaw05.RecordScans", spec := "recordScans", unfollowed := true, recurses := true, named := ["waggoner/crc.fourSteps"], apart := false, laid := [("waggoner/crc.fourSteps", laid_waggoner_crc_fourSteps)], narrowed := true }
def RecordScansUptoSaid : Prop := recordScansUptoRow.holds Tryd.pinned (OpenSpec.upto recordScansSpec)

/-- 'waggonerlaw05.RecordAll', WHERE WHAT IT READS IS OF BULK AT MOST 1048576: true; the input reads as it did. -/
def recordAllUptoRow : OpenClaim := { program := "ytjhpjhgofmlecaadoor", sum := "2239d1fbb90c374900656eb8dac073104f1e2302da17851b074ed7adab77ae0a", func := "waggoner/waggonerlaw05.RecordAll", spec := "recordAll", unfollowed := true, recurses := true, named := ["waggoner/crc.fourSteps"], apart := false, laid := [("waggoner/crc.fourSteps", laid_waggoner_crc_fourSteps)], narrowed := true }
def RecordAllUptoSaid : Prop := recordAllUptoRow.holds Tryd.pinned (OpenSpec.upto recordAllSpec)

/-- 'waggonerlaw05.RecordApart', WHERE WHAT IT READS IS OF BULK AT MOST 1048576: true; the input reads as it did. -/
def recordApartUptoRow : OpenClaim := { program := "ytjhpjhgofmlecaadoor", sum := "2239d1fbb90c374900656eb8dac073104f1e2302da17851b074ed7adab77ae0a", func := "waggoner/waggonerlaw05.RecordApart", spec := "recordApart", unfollowed := true, recurses := true, named := ["waggoner/crc.fourSteps"], apart := false, laid := [("waggoner/crc.fourSteps", laid_waggoner_crc_fourSteps)], narrowed := true }
def RecordApartUptoSaid : Prop := recordApartUptoRow.holds Tryd.pinned (OpenSpec.upto recordApartSpec)

/-- 'waggonerlaw05.RecordSizes', WHERE WHAT IT READS IS OF BULK AT MOST 1048576: true; the input reads as it did. -/
def recordSizesUptoRow : OpenClaim := { program := "ytjhpjhgofmlecaadoor", sum := "2239d1fbb90c374900656eb8dac073104f1e2302da17851b074ed7adab77ae0a", func := "waggoner/waggonerlaw05.RecordSizes", spec := "recordSizes", unfollowed := true, recurses := true, named := ["waggoner/crc.fourSteps"], apart := false, laid := [("waggoner/crc.fourSteps", laid_waggoner_crc_fourSteps)], narrowed := true }
def RecordSizesUptoSaid : Prop := recordSizesUptoRow.holds Tryd.pinned (OpenSpec.upto recordSizesSpec)

end Rows
end Go.Proofs.YtjhpjhgofmlecaaDoor
