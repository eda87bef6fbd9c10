/-
  NARROWER THAN 'FOR EVERY INPUT', by the rows' own cells (each row's printed sentence says how): CrcTells: laid · CrcGoes: laid · CrcBurst: laid · CrcLinear: laid · CrcSeals: laid · CrcNone: laid.
  DERIVED. THE GIVEN ROWS OF THIS SEAT. 6 by the template 'for every input the law returns true; each argument reads behind the call as it read before'; 0 by the template 'total and deterministic' (their statements: YtdjengpjbgejlaaDoorTotals.lean).
  GIVEN WITH THE SEED: the statements are not yours to turn. If you find one false, say at which input.
  Laid BY PROGRAM, IN A SANDBOX (cutbox-rows.mjs): the forced cells as the released guide's own fill.sh prints them over the translation 27032ef8b971c516… (all of the seat's roots in one cut). By AI agents, Wed Nov 11 2026. No macro, syntax, notation, axiom, sorry.
-/
import Derived.Test.YtdjengpjbgejlaaDoorChecked
import GoSem.Claim
import GoSem.ClaimJoined
import GoSem.ClaimMapViews
import Derived.JoinedTies
import Derived.KernelRfl
namespace Go.Proofs.YtdjengpjbgejlaaDoor
/- THE CELL 'sum', in the pinned program and in every row, IS THE sha256 OF THE DUMP (.gsa) THAT YtdjengpjbgejlaaDoorProg.lean LOADS. Nothing in Lean hashes anything: it is a label: what it is worth is what the hold of that sum in a sandbox is worth. -/
noncomputable def Tryd.pinned : Pinned := { name := "ytdjengpjbgejlaadoor", sum := "27032ef8b971c5162b94e2cb1baee1be59c33e7af483ad8561491e67006d4ef3", checked := Tryd.checked }
namespace Rows
def none {H : Type} : Left H := { results := [], args := [] }

/- WHAT THE LISTED PACKAGE-LEVEL VARIABLES READ AS WHEN THE CALL BEGINS. Each datum BY PROGRAM (the guide's laid-datum.mjs) off the statement by which the dump's own 'gosem.cut.vars' lays the variable. In a bare row this is a premise. The card (YtdjengpjbgejlaaDoorCards.lean) ties it to the program's text. -/
def laid_waggoner_crc_fourSteps {H : Type} : DataW H := .agg [.lit (.int .u32 0), .lit (.int .u32 274646895), .lit (.int .u32 549293790), .lit (.int .u32 820201905), .lit (.int .u32 1098587580), .lit (.int .u32 1361435347), .lit (.int .u32 1640403810), .lit (.int .u32 1905808397), .lit (.int .u32 2197175160), .lit (.int .u32 2460548119), .lit (.int .u32 2722870694), .lit (.int .u32 2987750089), .lit (.int .u32 3280807620), .lit (.int .u32 3553878443), .lit (.int .u32 3811616794), .lit (.int .u32 4084100981)]

/-- 'waggonerlaw02.CrcTells': WHATEVER THE INPUT: true; the input reads as it did. -/
def crcTellsSpec : ChangeSpec := { name := "crcTells", fn := fun _ => fun
  | [d1, d2, d3, d4] => { results := [.lit (.bool true)], args := [d1, d2, d3, d4] }
  | _ => none }
def crcTellsRow : OpenClaim := { program := "ytdjengpjbgejlaadoor", sum := "27032ef8b971c5162b94e2cb1baee1be59c33e7af483ad8561491e67006d4ef3", func := "waggoner/waggonerlaw02.CrcTells", spec := "crcTells", named := ["waggoner/crc.fourSteps"], apart := false, laid := [("waggoner/crc.fourSteps", laid_waggoner_crc_fourSteps)] }
def CrcTellsSaid : Prop := crcTellsRow.holds Tryd.pinned (OpenSpec.ofChange crcTellsSpec)

/-- ITS FALSE NEIGHBOUR: 'it returns false'. Refute it at one input. -/
def crcTellsWrong : ChangeSpec := { name := "crcTells", fn := fun _ => fun
  | [d1, d2, d3, d4] => { results := [.lit (.bool false)], args := [d1, d2, d3, d4] }
  | _ => none }
def CrcTellsWrongFalsely : Prop := crcTellsRow.holds Tryd.pinned (OpenSpec.ofChange crcTellsWrong)

/-- 'waggonerlaw02.CrcGoes': WHATEVER THE INPUT: true; the input reads as it did. -/
def crcGoesSpec : ChangeSpec := { name := "crcGoes", fn := fun _ => fun
  | [d1, d2, d3] => { results := [.lit (.bool true)], args := [d1, d2, d3] }
  | _ => none }
def crcGoesRow : OpenClaim := { program := "ytdjengpjbgejlaadoor", sum := "27032ef8b971c5162b94e2cb1baee1be59c33e7af483ad8561491e67006d4ef3", func := "waggoner/waggonerlaw02.CrcGoes", spec := "crcGoes", named := ["waggoner/crc.fourSteps"], apart := false, laid := [("waggoner/crc.fourSteps", laid_waggoner_crc_fourSteps)] }
def CrcGoesSaid : Prop := crcGoesRow.holds Tryd.pinned (OpenSpec.ofChange crcGoesSpec)

/-- ITS FALSE NEIGHBOUR: 'it returns false'. Refute it at one input. -/
def crcGoesWrong : ChangeSpec := { name := "crcGoes", fn := fun _ => fun
  | [d1, d2, d3] => { results := [.lit (.bool false)], args := [d1, d2, d3] }
  | _ => none }
def CrcGoesWrongFalsely : Prop := crcGoesRow.holds Tryd.pinned (OpenSpec.ofChange crcGoesWrong)

/-- 'waggonerlaw02.CrcBurst': WHATEVER THE INPUT: true; the input reads as it did. -/
def crcBurstSpec : ChangeSpec := { name := "crcBurst", fn := fun _ => fun
  | [d1, d2, d3] => { results := [.lit (.bool true)], args := [d1, d2, d3] }
  | _ => none }
def crcBurstRow : OpenClaim := { program := "ytdjengpjbgejlaadoor", sum := "27032ef8b971c5162b94e2cb1baee1be59c33e7af483ad8561491e67006d4ef3", func := "waggoner/waggonerlaw02.CrcBurst", spec := "crcBurst", named := ["waggoner/crc.fourSteps"], apart := false, laid := [("waggoner/crc.fourSteps", laid_waggoner_crc_fourSteps)] }
def CrcBurstSaid : Prop := crcBurstRow.holds Tryd.pinned (OpenSpec.ofChange crcBurstSpec)

/-- ITS FALSE NEIGHBOUR: 'it returns false'. Refute it at one input. -/
def crcBurstWrong : ChangeSpec := { name := "crcBurst", fn := fun _ => fun
  | [d1, d2, d3] => { results := [.lit (.bool false)], args := [d1, d2, d3] }
  | _ => none }
def CrcBurstWrongFalsely : Prop := crcBurstRow.holds Tryd.pinned (OpenSpec.ofChange crcBurstWrong)

/-- 'waggonerlaw02.CrcLinear': WHATEVER THE INPUT: true; the input reads as it did. -/
def crcLinearSpec : ChangeSpec := { name := "crcLinear", fn := fun _ => fun
  | [d1, d2, d3] => { results := [.lit (.bool true)], args := [d1, d2, d3] }
  | _ => none }
def crcLinearRow : OpenClaim := { program := "ytdjengpjbgejlaadoor", sum := "27032ef8b971c5162b94e2cb1baee1be59c33e7af483ad8561491e67006d4ef3", func := "waggoner/waggonerlaw02.CrcLinear", spec := "crcLinear", named := ["waggoner/crc.fourSteps"], apart := false, laid := [("waggoner/crc.fourSteps", laid_waggoner_crc_fourSteps)] }
def CrcLinearSaid : Prop := crcLinearRow.holds Tryd.pinned (OpenSpec.ofChange crcLinearSpec)

/-- ITS FALSE NEIGHBOUR: 'it returns false'. Refute it at one input. -/
def crcLinearWrong : ChangeSpec := { name := "crcLinear", fn := fun _ => fun
  | [d1, d2, d3] => { results := [.lit (.bool false)], args := [d1, d2, d3] }
  | _ => none }
def CrcLinearWrongFalsely : Prop := crcLinearRow.holds Tryd.pinned (OpenSpec.ofChange crcLinearWrong)

/-- 'waggonerlaw02.CrcSeals': WHATEVER THE INPUT: true; the input reads as it did. -/
def crcSealsSpec : ChangeSpec := { name := "crcSeals", fn := fun _ => fun
  | [d1, d2, d3] => { results := [.lit (.bool true)], args := [d1, d2, d3] }
  | _ => none }
def crcSealsRow : OpenClaim := { program := "ytdjengpjbgejlaadoor", sum := "27032ef8b971c5162b94e2cb1baee1be59c33e7af483ad8561491e67006d4ef3", func := "waggoner/waggonerlaw02.CrcSeals", spec := "crcSeals", named := ["waggoner/crc.fourSteps"], apart := false, laid := [("waggoner/crc.fourSteps", laid_waggoner_crc_fourSteps)] }
def CrcSealsSaid : Prop := crcSealsRow.holds Tryd.pinned (OpenSpec.ofChange crcSealsSpec)

/-- ITS FALSE NEIGHBOUR: 'it returns false'. Refute it at one input. -/
def crcSealsWrong : ChangeSpec := { name := "crcSeals", fn := fun _ => fun
  | [d1, d2, d3] => { results := [.lit (.bool false)], args := [d1, d2, d3] }
  | _ => none }
def CrcSealsWrongFalsely : Prop := crcSealsRow.holds Tryd.pinned (OpenSpec.ofChange crcSealsWrong)

/-- 'waggonerlaw02.CrcNone': WHATEVER THE INPUT: true; the input reads as it did. -/
def crcNoneSpec : ChangeSpec := { name := "crcNone", fn := fun _ => fun
  | [d1, d2, d3] => { results := [.lit (.bool true)], args := [d1, d2, d3] }
  | _ => none }
def crcNoneRow : OpenClaim := { program := "ytdjengpjbgejlaadoor", sum := "27032ef8b971c5162b94e2cb1baee1be59c33e7af483ad8561491e67006d4ef3", func := "waggoner/waggonerlaw02.CrcNone", spec := "crcNone", named := ["waggoner/crc.fourSteps"], apart := false, laid := [("waggoner/crc.fourSteps", laid_waggoner_crc_fourSteps)] }
def CrcNoneSaid : Prop := crcNoneRow.holds Tryd.pinned (OpenSpec.ofChange crcNoneSpec)

/-- ITS FALSE NEIGHBOUR: 'it returns false'. Refute it at one input. -/
def crcNoneWrong : ChangeSpec := { name := "crcNone", fn := fun _ => fun
  | [d1, d2, d3] => { results := [.lit (.bool false)], args := [d1, d2, d3] }
  | _ => none }
def CrcNoneWrongFalsely : Prop := crcNoneRow.holds Tryd.pinned (OpenSpec.ofChange crcNoneWrong)

/- THE SECOND FORM. 'bulk': how many values and letters a reading holds, each counted each time it is reached (what is shared counts as often as it is met; a slice's spare places count too). A statement '..UptoSaid' is the law's where the arguments, and the package variables that the reading takes, are together of bulk at most 1048576: NARROWER than '..Said'. Prove '..Said' where nothing that the law and all that it calls make is longer than what came in: it says more and counts as full. Else prove '..UptoSaid'. A law counts once. -/
mutual
def uptoBulk {H : Type} : DataW H → Nat
  | .lit (.string bytes) => bytes.length + 1
  | .lit _ => 1
  | .nil => 1
  | .ptr d => uptoBulk d + 1
  | .slice elems spare => uptoBulkAll elems + uptoBulkAll spare + 1
  | .agg parts => uptoBulkAll parts + 1
  | .iface _ d => uptoBulk d + 1
  | .map entries => uptoBulkEntries entries + 1
  | .held _ => 1
def uptoBulkAll {H : Type} : List (DataW H) → Nat
  | [] => 0
  | d :: r => uptoBulk d + uptoBulkAll r
def uptoBulkEntries {H : Type} : List (Lit × DataW H) → Nat
  | [] => 0
  | x :: r => uptoBulkEntry x + uptoBulkEntries r
def uptoBulkEntry {H : Type} : Lit × DataW H → Nat
  | (.string bytes, d) => bytes.length + uptoBulk d + 1
  | (_, d) => uptoBulk d + 1
 end
def uptoSmall : (H : Type) → List (DataW H) → Bool := fun _ ds => decide (uptoBulkAll ds ≤ 1048576)
def OpenSpec.upto (s : _root_.Go.ChangeSpec) : _root_.Go.OpenSpec := { _root_.Go.OpenSpec.ofChange s with cond := some uptoSmall }

/-- 'waggonerlaw02.CrcTells', WHERE WHAT IT READS IS OF BULK AT MOST 1048576: true; the input reads as it did. -/
def crcTellsUptoRow : OpenClaim := { program := "ytdjengpjbgejlaadoor", sum := "27032ef8b971c5162b94e2cb1baee1be59c33e7af483ad8561491e67006d4ef3", func := "waggoner/waggonerlaw02.CrcTells", spec := "crcTells", named := ["waggoner/crc.fourSteps"], apart := false, laid := [("waggoner/crc.fourSteps", laid_waggoner_crc_fourSteps)], narrowed := true }
def CrcTellsUptoSaid : Prop := crcTellsUptoRow.holds Tryd.pinned (OpenSpec.upto crcTellsSpec)

/-- 'waggonerlaw02.CrcGoes', WHERE WHAT IT READS IS OF BULK AT MOST 1048576: true; the input reads as it did. -/
def crcGoesUptoRow : OpenClaim := { program := "ytdjengpjbgejlaadoor", sum := "27032ef8b971c5162b94e2cb1baee1be59c33e7af483ad8561491e67006d4ef3", func := "waggoner/waggonerlaw02.CrcGoes", spec := "crcGoes", named := ["waggoner/crc.fourSteps"], apart := false, laid := [("waggoner/crc.fourSteps", laid_waggoner_crc_fourSteps)], narrowed := true }
def CrcGoesUptoSaid : Prop := crcGoesUptoRow.holds Tryd.pinned (OpenSpec.upto crcGoesSpec)

/-- 'waggonerlaw02.CrcBurst', WHERE WHAT IT READS IS OF BULK AT MOST 1048576: true; the input reads as it did. -/
def crcBurstUptoRow : OpenClaim := { program := "ytdjengpjbgejlaadoor", sum := "27032ef8b971c5162b94e2cb1baee1be59c33e7af483ad8561491e67006d4ef3", func := "waggoner/waggonerlaw02.CrcBurst", spec := "crcBurst", named := ["waggoner/crc.fourSteps"], apart := false, laid := [("waggoner/crc.fourSteps", laid_waggoner_crc_fourSteps)], narrowed := true }
def CrcBurstUptoSaid : Prop := crcBurstUptoRow.holds Tryd.pinned (OpenSpec.upto crcBurstSpec)

/-- 'waggonerlaw02.CrcLinear', WHERE WHAT IT READS IS OF BULK AT MOST 1048576: true; the input reads as it did. -/
def crcLinearUptoRow : OpenClaim := { program := "ytdjengpjbgejlaadoor", sum := "27032ef8b971c5162b94e2cb1baee1be59c33e7af483ad8561491e67006d4ef3", func := "waggoner/waggonerlaw02.CrcLinear", spec := "crcLinear", named := ["waggoner/crc.fourSteps"], apart := false, laid := [("waggoner/crc.fourSteps", laid_waggoner_crc_fourSteps)], narrowed := true }
def CrcLinearUptoSaid : Prop := crcLinearUptoRow.holds Tryd.pinned (OpenSpec.upto crcLinearSpec)

/-- 'waggonerlaw02.CrcSeals', WHERE WHAT IT READS IS OF BULK AT MOST 1048576: true; the input reads as it did. -/
def crcSealsUptoRow : OpenClaim := { program := "ytdjengpjbgejlaadoor", sum := "27032ef8b971c5162b94e2cb1baee1be59c33e7af483ad8561491e67006d4ef3", func := "waggoner/waggonerlaw02.CrcSeals", spec := "crcSeals", named := ["waggoner/crc.fourSteps"], apart := false, laid := [("waggoner/crc.fourSteps", laid_waggoner_crc_fourSteps)], narrowed := true }
def CrcSealsUptoSaid : Prop := crcSealsUptoRow.holds Tryd.pinned (OpenSpec.upto crcSealsSpec)

/-- 'waggonerlaw02.CrcNone', WHERE WHAT IT READS IS OF BULK AT MOST 1048576: true; the input reads as it did. -/
def crcNoneUptoRow : OpenClaim := { program := "ytdjengpjbgejlaadoor", sum := "27032ef8b971c5162b94e2cb1baee1be59c33e7af483ad8561491e67006d4ef3", func := "waggoner/waggonerlaw02.CrcNone", spec := "crcNone", named := ["waggoner/crc.fourSteps"], apart := false, laid := [("waggoner/crc.fourSteps", laid_waggoner_crc_fourSteps)], narrowed := true }
def CrcNoneUptoSaid : Prop := crcNoneUptoRow.holds Tryd.pinned (OpenSpec.upto crcNoneSpec)

end Rows
end Go.Proofs.YtdjengpjbgejlaaDoor
