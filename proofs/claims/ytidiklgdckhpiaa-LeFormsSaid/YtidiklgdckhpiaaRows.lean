/-
  No cell of these rows narrows 'for every input' (looked for: loops, veiled, ifaces, maps, wideKeys, modest, calm, conditions, laid).
  DERIVED. THE GIVEN ROWS OF THIS SEAT. 7 by the template 'for every input the law returns true; each argument reads behind the call as it read before'; 0 by the template 'total and deterministic' (their statements: YtidiklgdckhpiaaTotals.lean).
  GIVEN WITH THE SEED: the statements are not yours to turn. If you find one false, say at which input.
  Laid BY PROGRAM, IN A SANDBOX (cutbox-rows.mjs): the forced cells as the released guide's own fill.sh prints them over the translation 8f649b217c770546… (all of the seat's roots in one cut). By AI agents, Wed Nov 11 2026. No macro, syntax, notation, axiom, sorry.
-/
import Derived.Test.YtidiklgdckhpiaaChecked
import GoSem.Claim
import GoSem.ClaimJoined
import GoSem.ClaimMapViews
import Derived.JoinedTies
import Derived.KernelRfl
namespace Go.Proofs.Ytidiklgdckhpiaa
/- THE CELL 'sum', in the pinned program and in every row, IS THE sha256 OF THE DUMP (.gsa) THAT YtidiklgdckhpiaaProg.lean LOADS. Nothing in Lean hashes anything: it is a label: what it is worth is what the hold of that sum in a sandbox is worth. -/
noncomputable def Try.pinned : Pinned := { name := "ytidiklgdckhpiaa", sum := "8f649b217c7705462a246b4ecf93a9f100583b1230f8d9bf6a423ab2229e5873", checked := Try.checked }
namespace Rows
def none {H : Type} : Left H := { results := [], args := [] }

/-- 'waggonerlaw01.LePuts': WHATEVER THE INPUT: true; the input reads as it did. -/
def lePutsSpec : ChangeSpec := { name := "lePuts", fn := fun _ => fun
  | [d1, d2, d3] => { results := [.lit (.bool true)], args := [d1, d2, d3] }
  | _ => none }
def lePutsRow : OpenClaim := { program := "ytidiklgdckhpiaa", sum := "8f649b217c7705462a246b4ecf93a9f100583b1230f8d9bf6a423ab2229e5873", func := "waggoner/waggonerlaw01.LePuts", spec := "lePuts", apart := false }
def LePutsSaid : Prop := lePutsRow.holds Try.pinned (OpenSpec.ofChange lePutsSpec)

/-- ITS FALSE NEIGHBOUR: 'it returns false'. Refute it at one input. -/
def lePutsWrong : ChangeSpec := { name := "lePuts", fn := fun _ => fun
  | [d1, d2, d3] => { results := [.lit (.bool false)], args := [d1, d2, d3] }
  | _ => none }
def LePutsWrongFalsely : Prop := lePutsRow.holds Try.pinned (OpenSpec.ofChange lePutsWrong)

/-- 'waggonerlaw01.LePacks': WHATEVER THE INPUT: true; the input reads as it did. -/
def lePacksSpec : ChangeSpec := { name := "lePacks", fn := fun _ => fun
  | [d1, d2, d3] => { results := [.lit (.bool true)], args := [d1, d2, d3] }
  | _ => none }
def lePacksRow : OpenClaim := { program := "ytidiklgdckhpiaa", sum := "8f649b217c7705462a246b4ecf93a9f100583b1230f8d9bf6a423ab2229e5873", func := "waggoner/waggonerlaw01.LePacks", spec := "lePacks", apart := false }
def LePacksSaid : Prop := lePacksRow.holds Try.pinned (OpenSpec.ofChange lePacksSpec)

/-- ITS FALSE NEIGHBOUR: 'it returns false'. Refute it at one input. -/
def lePacksWrong : ChangeSpec := { name := "lePacks", fn := fun _ => fun
  | [d1, d2, d3] => { results := [.lit (.bool false)], args := [d1, d2, d3] }
  | _ => none }
def LePacksWrongFalsely : Prop := lePacksRow.holds Try.pinned (OpenSpec.ofChange lePacksWrong)

/-- 'waggonerlaw01.LeBack': WHATEVER THE INPUT: true; the input reads as it did. -/
def leBackSpec : ChangeSpec := { name := "leBack", fn := fun _ => fun
  | [d1, d2, d3, d4, d5] => { results := [.lit (.bool true)], args := [d1, d2, d3, d4, d5] }
  | _ => none }
def leBackRow : OpenClaim := { program := "ytidiklgdckhpiaa", sum := "8f649b217c7705462a246b4ecf93a9f100583b1230f8d9bf6a423ab2229e5873", func := "waggoner/waggonerlaw01.LeBack", spec := "leBack", apart := false }
def LeBackSaid : Prop := leBackRow.holds Try.pinned (OpenSpec.ofChange leBackSpec)

/-- ITS FALSE NEIGHBOUR: 'it returns false'. Refute it at one input. -/
def leBackWrong : ChangeSpec := { name := "leBack", fn := fun _ => fun
  | [d1, d2, d3, d4, d5] => { results := [.lit (.bool false)], args := [d1, d2, d3, d4, d5] }
  | _ => none }
def LeBackWrongFalsely : Prop := leBackRow.holds Try.pinned (OpenSpec.ofChange leBackWrong)

/-- 'waggonerlaw01.LeApart': WHATEVER THE INPUT: true; the input reads as it did. -/
def leApartSpec : ChangeSpec := { name := "leApart", fn := fun _ => fun
  | [d1, d2] => { results := [.lit (.bool true)], args := [d1, d2] }
  | _ => none }
def leApartRow : OpenClaim := { program := "ytidiklgdckhpiaa", sum := "8f649b217c7705462a246b4ecf93a9f100583b1230f8d9bf6a423ab2229e5873", func := "waggoner/waggonerlaw01.LeApart", spec := "leApart", apart := false }
def LeApartSaid : Prop := leApartRow.holds Try.pinned (OpenSpec.ofChange leApartSpec)

/-- ITS FALSE NEIGHBOUR: 'it returns false'. Refute it at one input. -/
def leApartWrong : ChangeSpec := { name := "leApart", fn := fun _ => fun
  | [d1, d2] => { results := [.lit (.bool false)], args := [d1, d2] }
  | _ => none }
def LeApartWrongFalsely : Prop := leApartRow.holds Try.pinned (OpenSpec.ofChange leApartWrong)

/-- 'waggonerlaw01.LeForms': WHATEVER THE INPUT: true; the input reads as it did. -/
def leFormsSpec : ChangeSpec := { name := "leForms", fn := fun _ => fun
  | [d1, d2, d3, d4] => { results := [.lit (.bool true)], args := [d1, d2, d3, d4] }
  | _ => none }
def leFormsRow : OpenClaim := { program := "ytidiklgdckhpiaa", sum := "8f649b217c7705462a246b4ecf93a9f100583b1230f8d9bf6a423ab2229e5873", func := "waggoner/waggonerlaw01.LeForms", spec := "leForms", apart := false }
def LeFormsSaid : Prop := leFormsRow.holds Try.pinned (OpenSpec.ofChange leFormsSpec)

/-- ITS FALSE NEIGHBOUR: 'it returns false'. Refute it at one input. -/
def leFormsWrong : ChangeSpec := { name := "leForms", fn := fun _ => fun
  | [d1, d2, d3, d4] => { results := [.lit (.bool false)], args := [d1, d2, d3, d4] }
  | _ => none }
def LeFormsWrongFalsely : Prop := leFormsRow.holds Try.pinned (OpenSpec.ofChange leFormsWrong)

/-- 'waggonerlaw01.LeWide': WHATEVER THE INPUT: true; the input reads as it did. -/
def leWideSpec : ChangeSpec := { name := "leWide", fn := fun _ => fun
  | [d1, d2] => { results := [.lit (.bool true)], args := [d1, d2] }
  | _ => none }
def leWideRow : OpenClaim := { program := "ytidiklgdckhpiaa", sum := "8f649b217c7705462a246b4ecf93a9f100583b1230f8d9bf6a423ab2229e5873", func := "waggoner/waggonerlaw01.LeWide", spec := "leWide", apart := false }
def LeWideSaid : Prop := leWideRow.holds Try.pinned (OpenSpec.ofChange leWideSpec)

/-- ITS FALSE NEIGHBOUR: 'it returns false'. Refute it at one input. -/
def leWideWrong : ChangeSpec := { name := "leWide", fn := fun _ => fun
  | [d1, d2] => { results := [.lit (.bool false)], args := [d1, d2] }
  | _ => none }
def LeWideWrongFalsely : Prop := leWideRow.holds Try.pinned (OpenSpec.ofChange leWideWrong)

/-- 'waggonerlaw01.LeMany': WHATEVER THE INPUT: true; the input reads as it did. -/
def leManySpec : ChangeSpec := { name := "leMany", fn := fun _ => fun
  | [d] => { results := [.lit (.bool true)], args := [d] }
  | _ => none }
def leManyRow : OpenClaim := { program := "ytidiklgdckhpiaa", sum := "8f649b217c7705462a246b4ecf93a9f100583b1230f8d9bf6a423ab2229e5873", func := "waggoner/waggonerlaw01.LeMany", spec := "leMany", apart := false }
def LeManySaid : Prop := leManyRow.holds Try.pinned (OpenSpec.ofChange leManySpec)

/-- ITS FALSE NEIGHBOUR: 'it returns false'. Refute it at one input. -/
def leManyWrong : ChangeSpec := { name := "leMany", fn := fun _ => fun
  | [d] => { results := [.lit (.bool false)], args := [d] }
  | _ => none }
def LeManyWrongFalsely : Prop := leManyRow.holds Try.pinned (OpenSpec.ofChange leManyWrong)

/- THE SECOND FORM. 'bulk': how many values and letters a reading holds, each counted each time it is reached (what is shared counts as often as it is met; a slice's spare places count too). A statement '..UptoSaid' is the law's where the arguments, and the package variables that the reading takes, are together of bulk at most 1048576: NARROWER than '..Said'. Prove '..Said' where nothing that the law and all that it calls make is longer than what came in: it says more and counts as full. Else prove '..UptoSaid'. A law counts once. -/
mutual
def uptoBulk {H : Type} : DataW H → Nat
  | .lit (.string bytes) => bytes.length + 1
  | .lit _ => 1
  | .nil => 1
  | .ptr d => uptoBulk d + 1
  | .slice elems spare => uptoBulkAll elems + uptoBulkAll spare + 1
  | .agg parts => uptoBulkAll parts + 1
  | .iface _ d => uptoBulk d + 1
  | .map entries => uptoBulkEntries entries + 1
  | .held _ => 1
def uptoBulkAll {H : Type} : List (DataW H) → Nat
  | [] => 0
  | d :: r => uptoBulk d + uptoBulkAll r
def uptoBulkEntries {H : Type} : List (Lit × DataW H) → Nat
  | [] => 0
  | x :: r => uptoBulkEntry x + uptoBulkEntries r
def uptoBulkEntry {H : Type} : Lit × DataW H → Nat
  | (.string bytes, d) => bytes.length + uptoBulk d + 1
  | (_, d) => uptoBulk d + 1
 end
def uptoSmall : (H : Type) → List (DataW H) → Bool := fun _ ds => decide (uptoBulkAll ds ≤ 1048576)
def OpenSpec.upto (s : _root_.Go.ChangeSpec) : _root_.Go.OpenSpec := { _root_.Go.OpenSpec.ofChange s with cond := some uptoSmall }

/-- 'waggonerlaw01.LePuts', WHERE WHAT IT READS IS OF BULK AT MOST 1048576: true; the input reads as it did. -/
def lePutsUptoRow : OpenClaim := { program := "ytidiklgdckhpiaa", sum := "8f649b217c7705462a246b4ecf93a9f100583b1230f8d9bf6a423ab2229e5873", func := "waggoner/waggonerlaw01.LePuts", spec := "lePuts", apart := false, narrowed := true }
def LePutsUptoSaid : Prop := lePutsUptoRow.holds Try.pinned (OpenSpec.upto lePutsSpec)

/-- 'waggonerlaw01.LePacks', WHERE WHAT IT READS IS OF BULK AT MOST 1048576: true; the input reads as it did. -/
def lePacksUptoRow : OpenClaim := { program := "ytidiklgdckhpiaa", sum := "8f649b217c7705462a246b4ecf93a9f100583b1230f8d9bf6a423ab2229e5873", func := "waggoner/waggonerlaw01.LePacks", spec := "lePacks", apart := false, narrowed := true }
def LePacksUptoSaid : Prop := lePacksUptoRow.holds Try.pinned (OpenSpec.upto lePacksSpec)

/-- 'waggonerlaw01.LeBack', WHERE WHAT IT READS IS OF BULK AT MOST 1048576: true; the input reads as it did. -/
def leBackUptoRow : OpenClaim := { program := "ytidiklgdckhpiaa", sum := "8f649b217c7705462a246b4ecf93a9f100583b1230f8d9bf6a423ab2229e5873", func := "waggoner/waggonerlaw01.LeBack", spec := "leBack", apart := false, narrowed := true }
def LeBackUptoSaid : Prop := leBackUptoRow.holds Try.pinned (OpenSpec.upto leBackSpec)

/-- 'waggonerlaw01.LeApart', WHERE WHAT IT READS IS OF BULK AT MOST 1048576: true; the input reads as it did. -/
def leApartUptoRow : OpenClaim := { program := "ytidiklgdckhpiaa", sum := "8f649b217c7705462a246b4ecf93a9f100583b1230f8d9bf6a423ab2229e5873", func := "waggoner/waggonerlaw01.LeApart", spec := "leApart", apart := false, narrowed := true }
def LeApartUptoSaid : Prop := leApartUptoRow.holds Try.pinned (OpenSpec.upto leApartSpec)

/-- 'waggonerlaw01.LeForms', WHERE WHAT IT READS IS OF BULK AT MOST 1048576: true; the input reads as it did. -/
def leFormsUptoRow : OpenClaim := { program := "ytidiklgdckhpiaa", sum := "8f649b217c7705462a246b4ecf93a9f100583b1230f8d9bf6a423ab2229e5873", func := "waggoner/waggonerlaw01.LeForms", spec := "leForms", apart := false, narrowed := true }
def LeFormsUptoSaid : Prop := leFormsUptoRow.holds Try.pinned (OpenSpec.upto leFormsSpec)

/-- 'waggonerlaw01.LeWide', WHERE WHAT IT READS IS OF BULK AT MOST 1048576: true; the input reads as it did. -/
def leWideUptoRow : OpenClaim := { program := "ytidiklgdckhpiaa", sum := "8f649b217c7705462a246b4ecf93a9f100583b1230f8d9bf6a423ab2229e5873", func := "waggoner/waggonerlaw01.LeWide", spec := "leWide", apart := false, narrowed := true }
def LeWideUptoSaid : Prop := leWideUptoRow.holds Try.pinned (OpenSpec.upto leWideSpec)

/-- 'waggonerlaw01.LeMany', WHERE WHAT IT READS IS OF BULK AT MOST 1048576: true; the input reads as it did. -/
def leManyUptoRow : OpenClaim := { program := "ytidiklgdckhpiaa", sum := "8f649b217c7705462a246b4ecf93a9f100583b1230f8d9bf6a423ab2229e5873", func := "waggoner/waggonerlaw01.LeMany", spec := "leMany", apart := false, narrowed := true }
def LeManyUptoSaid : Prop := leManyUptoRow.holds Try.pinned (OpenSpec.upto leManySpec)

end Rows
end Go.Proofs.Ytidiklgdckhpiaa
