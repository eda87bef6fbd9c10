/-
  No cell of these rows narrows 'for every input' (looked for: loops, veiled, ifaces, maps, wideKeys, modest, calm, conditions, laid).
  DERIVED. THE GIVEN ROWS OF THIS SEAT. 7 by the template 'for every input the law returns true; each argument reads behind the call as it read before'; 0 by the template 'total and deterministic' (their statements: YtnjekhnheihooaaTotals.lean).
  GIVEN WITH THE SEED: the statements are not yours to turn. If you find one false, say at which input.
  Laid BY PROGRAM, IN A SANDBOX (cutbox-rows.mjs): the forced cells as the released guide's own fill.sh prints them over the translation 2778023f0f01d9d7… (all of the seat's roots in one cut). By AI agents, Wed Nov 11 2026. No macro, syntax, notation, axiom, sorry.
-/
import Derived.Test.YtnjekhnheihooaaChecked
import GoSem.Claim
import GoSem.ClaimJoined
import GoSem.ClaimMapViews
import Derived.JoinedTies
import Derived.KernelRfl
namespace Go.Proofs.Ytnjekhnheihooaa
/- THE CELL 'sum', in the pinned program and in every row, IS THE sha256 OF THE DUMP (.gsa) THAT YtnjekhnheihooaaProg.lean LOADS. Nothing in Lean hashes anything: it is a label: what it is worth is what the hold of that sum in a sandbox is worth. -/
noncomputable def Try.pinned : Pinned := { name := "ytnjekhnheihooaa", sum := "2778023f0f01d9d7bc4b9d6205185dcd1d68438f751fce722d9bee864cf23990", checked := Try.checked }
namespace Rows
def none {H : Type} : Left H := { results := [], args := [] }

/-- 'waggonerlaw04.DevNames': WHATEVER THE INPUT: true; the input reads as it did. -/
def devNamesSpec : ChangeSpec := { name := "devNames", fn := fun _ => fun
  | [] => { results := [.lit (.bool true)], args := [] }
  | _ => none }
def devNamesRow : OpenClaim := { program := "ytnjekhnheihooaa", sum := "2778023f0f01d9d7bc4b9d6205185dcd1d68438f751fce722d9bee864cf23990", func := "waggoner/waggonerlaw04.DevNames", spec := "devNames", unfollowed := true, recurses := true, apart := false }
def DevNamesSaid : Prop := devNamesRow.holds Try.pinned (OpenSpec.ofChange devNamesSpec)

/-- ITS FALSE NEIGHBOUR: 'it returns false'. Refute it at one input. -/
def devNamesWrong : ChangeSpec := { name := "devNames", fn := fun _ => fun
  | [] => { results := [.lit (.bool false)], args := [] }
  | _ => none }
def DevNamesWrongFalsely : Prop := devNamesRow.holds Try.pinned (OpenSpec.ofChange devNamesWrong)

/-- 'waggonerlaw04.DevTells': WHATEVER THE INPUT: true; the input reads as it did. -/
def devTellsSpec : ChangeSpec := { name := "devTells", fn := fun _ => fun
  | [d1, d2, d3, d4, d5] => { results := [.lit (.bool true)], args := [d1, d2, d3, d4, d5] }
  | _ => none }
def devTellsRow : OpenClaim := { program := "ytnjekhnheihooaa", sum := "2778023f0f01d9d7bc4b9d6205185dcd1d68438f751fce722d9bee864cf23990", func := "waggoner/waggonerlaw04.DevTells", spec := "devTells", unfollowed := true, recurses := true, apart := false }
def DevTellsSaid : Prop := devTellsRow.holds Try.pinned (OpenSpec.ofChange devTellsSpec)

/-- ITS FALSE NEIGHBOUR: 'it returns false'. Refute it at one input. -/
def devTellsWrong : ChangeSpec := { name := "devTells", fn := fun _ => fun
  | [d1, d2, d3, d4, d5] => { results := [.lit (.bool false)], args := [d1, d2, d3, d4, d5] }
  | _ => none }
def DevTellsWrongFalsely : Prop := devTellsRow.holds Try.pinned (OpenSpec.ofChange devTellsWrong)

/-- 'waggonerlaw04.DevMay': WHATEVER THE INPUT: true; the input reads as it did. -/
def devMaySpec : ChangeSpec := { name := "devMay", fn := fun _ => fun
  | [d1, d2, d3] => { results := [.lit (.bool true)], args := [d1, d2, d3] }
  | _ => none }
def devMayRow : OpenClaim := { program := "ytnjekhnheihooaa", sum := "2778023f0f01d9d7bc4b9d6205185dcd1d68438f751fce722d9bee864cf23990", func := "waggoner/waggonerlaw04.DevMay", spec := "devMay", unfollowed := true, recurses := true, apart := false }
def DevMaySaid : Prop := devMayRow.holds Try.pinned (OpenSpec.ofChange devMaySpec)

/-- ITS FALSE NEIGHBOUR: 'it returns false'. Refute it at one input. -/
def devMayWrong : ChangeSpec := { name := "devMay", fn := fun _ => fun
  | [d1, d2, d3] => { results := [.lit (.bool false)], args := [d1, d2, d3] }
  | _ => none }
def DevMayWrongFalsely : Prop := devMayRow.holds Try.pinned (OpenSpec.ofChange devMayWrong)

/-- 'waggonerlaw04.DevKeeps': WHATEVER THE INPUT: true; the input reads as it did. -/
def devKeepsSpec : ChangeSpec := { name := "devKeeps", fn := fun _ => fun
  | [d1, d2] => { results := [.lit (.bool true)], args := [d1, d2] }
  | _ => none }
def devKeepsRow : OpenClaim := { program := "ytnjekhnheihooaa", sum := "2778023f0f01d9d7bc4b9d6205185dcd1d68438f751fce722d9bee864cf23990", func := "waggoner/waggonerlaw04.DevKeeps", spec := "devKeeps", unfollowed := true, recurses := true, apart := false }
def DevKeepsSaid : Prop := devKeepsRow.holds Try.pinned (OpenSpec.ofChange devKeepsSpec)

/-- ITS FALSE NEIGHBOUR: 'it returns false'. Refute it at one input. -/
def devKeepsWrong : ChangeSpec := { name := "devKeeps", fn := fun _ => fun
  | [d1, d2] => { results := [.lit (.bool false)], args := [d1, d2] }
  | _ => none }
def DevKeepsWrongFalsely : Prop := devKeepsRow.holds Try.pinned (OpenSpec.ofChange devKeepsWrong)

/-- 'waggonerlaw04.DevStops': WHATEVER THE INPUT: true; the input reads as it did. -/
def devStopsSpec : ChangeSpec := { name := "devStops", fn := fun _ => fun
  | [d] => { results := [.lit (.bool true)], args := [d] }
  | _ => none }
def devStopsRow : OpenClaim := { program := "ytnjekhnheihooaa", sum := "2778023f0f01d9d7bc4b9d6205185dcd1d68438f751fce722d9bee864cf23990", func := "waggoner/waggonerlaw04.DevStops", spec := "devStops", unfollowed := true, recurses := true, apart := false }
def DevStopsSaid : Prop := devStopsRow.holds Try.pinned (OpenSpec.ofChange devStopsSpec)

/-- ITS FALSE NEIGHBOUR: 'it returns false'. Refute it at one input. -/
def devStopsWrong : ChangeSpec := { name := "devStops", fn := fun _ => fun
  | [d] => { results := [.lit (.bool false)], args := [d] }
  | _ => none }
def DevStopsWrongFalsely : Prop := devStopsRow.holds Try.pinned (OpenSpec.ofChange devStopsWrong)

/-- 'waggonerlaw04.DevApart': WHATEVER THE INPUT: true; the input reads as it did. -/
def devApartSpec : ChangeSpec := { name := "devApart", fn := fun _ => fun
  | [d1, d2] => { results := [.lit (.bool true)], args := [d1, d2] }
  | _ => none }
def devApartRow : OpenClaim := { program := "ytnjekhnheihooaa", sum := "2778023f0f01d9d7bc4b9d6205185dcd1d68438f751fce722d9bee864cf23990", func := "waggoner/waggonerlaw04.DevApart", spec := "devApart", unfollowed := true, recurses := true, apart := false }
def DevApartSaid : Prop := devApartRow.holds Try.pinned (OpenSpec.ofChange devApartSpec)

/-- ITS FALSE NEIGHBOUR: 'it returns false'. Refute it at one input. -/
def devApartWrong : ChangeSpec := { name := "devApart", fn := fun _ => fun
  | [d1, d2] => { results := [.lit (.bool false)], args := [d1, d2] }
  | _ => none }
def DevApartWrongFalsely : Prop := devApartRow.holds Try.pinned (OpenSpec.ofChange devApartWrong)

/-- 'waggonerlaw04.DevOpens': WHATEVER THE INPUT: true; the input reads as it did. -/
def devOpensSpec : ChangeSpec := { name := "devOpens", fn := fun _ => fun
  | [d1, d2, d3, d4, d5, d6, d7] => { results := [.lit (.bool true)], args := [d1, d2, d3, d4, d5, d6, d7] }
  | _ => none }
def devOpensRow : OpenClaim := { program := "ytnjekhnheihooaa", sum := "2778023f0f01d9d7bc4b9d6205185dcd1d68438f751fce722d9bee864cf23990", func := "waggoner/waggonerlaw04.DevOpens", spec := "devOpens", unfollowed := true, recurses := true, apart := false }
def DevOpensSaid : Prop := devOpensRow.holds Try.pinned (OpenSpec.ofChange devOpensSpec)

/-- ITS FALSE NEIGHBOUR: 'it returns false'. Refute it at one input. -/
def devOpensWrong : ChangeSpec := { name := "devOpens", fn := fun _ => fun
  | [d1, d2, d3, d4, d5, d6, d7] => { results := [.lit (.bool false)], args := [d1, d2, d3, d4, d5, d6, d7] }
  | _ => none }
def DevOpensWrongFalsely : Prop := devOpensRow.holds Try.pinned (OpenSpec.ofChange devOpensWrong)

/- THE SECOND FORM. 'bulk': how many values and letters a reading holds, each counted each time it is reached (what is shared counts as often as it is met; a slice's spare places count too). A statement '..UptoSaid' is the law's where the arguments, and the package variables that the reading takes, are together of bulk at most 1048576: NARROWER than '..Said'. Prove '..Said' where nothing that the law and all that it calls make is longer than what came in: it says more and counts as full. Else prove '..UptoSaid'. A law counts once. -/
mutual
def uptoBulk {H : Type} : DataW H → Nat
  | .lit (.string bytes) => bytes.length + 1
  | .lit _ => 1
  | .nil => 1
  | .ptr d => uptoBulk d + 1
  | .slice elems spare => uptoBulkAll elems + uptoBulkAll spare + 1
  | .agg parts => uptoBulkAll parts + 1
  | .iface _ d => uptoBulk d + 1
  | .map entries => uptoBulkEntries entries + 1
  | .held _ => 1
def uptoBulkAll {H : Type} : List (DataW H) → Nat
  | [] => 0
  | d :: r => uptoBulk d + uptoBulkAll r
def uptoBulkEntries {H : Type} : List (Lit × DataW H) → Nat
  | [] => 0
  | x :: r => uptoBulkEntry x + uptoBulkEntries r
def uptoBulkEntry {H : Type} : Lit × DataW H → Nat
  | (.string bytes, d) => bytes.length + uptoBulk d + 1
  | (_, d) => uptoBulk d + 1
 end
def uptoSmall : (H : Type) → List (DataW H) → Bool := fun _ ds => decide (uptoBulkAll ds ≤ 1048576)
def OpenSpec.upto (s : _root_.Go.ChangeSpec) : _root_.Go.OpenSpec := { _root_.Go.OpenSpec.ofChange s with cond := some uptoSmall }

/-- 'waggonerlaw04.DevNames', WHERE WHAT IT READS IS OF BULK AT MOST 1048576: true; the input reads as it did. -/
def devNamesUptoRow : OpenClaim := { program := "ytnjekhnheihooaa", sum := "2778023f0f01d9d7bc4b9d6205185dcd1d68438f751fce722d9bee864cf23990", func := "waggoner/waggonerlaw04.DevNames", spec := "devNames", unfollowed := true, recurses := true, apart := false, narrowed := true }
def DevNamesUptoSaid : Prop := devNamesUptoRow.holds Try.pinned (OpenSpec.upto devNamesSpec)

/-- 'waggonerlaw04.DevTells', WHERE WHAT IT READS IS OF BULK AT MOST 1048576: true; the input reads as it did. -/
def devTellsUptoRow : OpenClaim := { program := "ytnjekhnheihooaa", sum := "2778023f0f01d9d7bc4b9d6205185dcd1d68438f751fce722d9bee864cf23990", func := "waggoner/waggonerlaw04.DevTells", spec := "devTells", unfollowed := true, recurses := true, apart := false, narrowed := true }
def DevTellsUptoSaid : Prop := devTellsUptoRow.holds Try.pinned (OpenSpec.upto devTellsSpec)

/-- 'waggonerlaw04.DevMay', WHERE WHAT IT READS IS OF BULK AT MOST 1048576: true; the input reads as it did. -/
def devMayUptoRow : OpenClaim := { program := "ytnjekhnheihooaa", sum := "2778023f0f01d9d7bc4b9d6205185dcd1d68438f751fce722d9bee864cf23990", func := "waggoner/waggonerlaw04.DevMay", spec := "devMay", unfollowed := true, recurses := true, apart := false, narrowed := true }
def DevMayUptoSaid : Prop := devMayUptoRow.holds Try.pinned (OpenSpec.upto devMaySpec)

/-- 'waggonerlaw04.DevKeeps', WHERE WHAT IT READS IS OF BULK AT MOST 1048576: true; the input reads as it did. -/
def devKeepsUptoRow : OpenClaim := { program := "ytnjekhnheihooaa", sum := "2778023f0f01d9d7bc4b9d6205185dcd1d68438f751fce722d9bee864cf23990", func := "waggoner/waggonerlaw04.DevKeeps", spec := "devKeeps", unfollowed := true, recurses := true, apart := false, narrowed := true }
def DevKeepsUptoSaid : Prop := devKeepsUptoRow.holds Try.pinned (OpenSpec.upto devKeepsSpec)

/-- 'waggonerlaw04.DevStops', WHERE WHAT IT READS IS OF BULK AT MOST 1048576: true; the input reads as it did. -/
def devStopsUptoRow : OpenClaim := { program := "ytnjekhnheihooaa", sum := "2778023f0f01d9d7bc4b9d6205185dcd1d68438f751fce722d9bee864cf23990", func := "waggoner/waggonerlaw04.DevStops", spec := "devStops", unfollowed := true, recurses := true, apart := false, narrowed := true }
def DevStopsUptoSaid : Prop := devStopsUptoRow.holds Try.pinned (OpenSpec.upto devStopsSpec)

/-- 'waggonerlaw04.DevApart', WHERE WHAT IT READS IS OF BULK AT MOST 1048576: true; the input reads as it did. -/
def devApartUptoRow : OpenClaim := { program := "ytnjekhnheihooaa", sum := "2778023f0f01d9d7bc4b9d6205185dcd1d68438f751fce722d9bee864cf23990", func := "waggoner/waggonerlaw04.DevApart", spec := "devApart", unfollowed := true, recurses := true, apart := false, narrowed := true }
def DevApartUptoSaid : Prop := devApartUptoRow.holds Try.pinned (OpenSpec.upto devApartSpec)

/-- 'waggonerlaw04.DevOpens', WHERE WHAT IT READS IS OF BULK AT MOST 1048576: true; the input reads as it did. -/
def devOpensUptoRow : OpenClaim := { program := "ytnjekhnheihooaa", sum := "2778023f0f01d9d7bc4b9d6205185dcd1d68438f751fce722d9bee864cf23990", func := "waggoner/waggonerlaw04.DevOpens", spec := "devOpens", unfollowed := true, recurses := true, apart := false, narrowed := true }
def DevOpensUptoSaid : Prop := devOpensUptoRow.holds Try.pinned (OpenSpec.upto devOpensSpec)

end Rows
end Go.Proofs.Ytnjekhnheihooaa
