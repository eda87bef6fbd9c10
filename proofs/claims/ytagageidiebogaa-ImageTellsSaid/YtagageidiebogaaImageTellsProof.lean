/-
  'waggoner/waggonerlaw09.ImageTells' answers true at every input, and each argument reads afterwards as it read before ('Rows.ImageTellsSaid'). No condition. The walk: YtagageidiebogaaImageTellsWalk.
-/
import Derived.Test.YtagageidiebogaaImageTellsWalk
import Derived.ProofKit
import Derived.OpenShut
import Derived.ShutString
import Derived.ChangeOld
import Derived.Lib.SmallJoins
import Derived.Test.YtagageidiebogaaLeaf
import Derived.Test.YtagageidiebogaaSteps
namespace Go.Proofs.Ytagageidiebogaa.imageTells
open Go.ChangeShapes Go.WideShapes Go.ChangeAt Go.RowKit Go.Wag
open Go.ChangeMaps (open_string shut_string)
set_option linter.unusedVariables false

theorem own : ownKnob Try.prog.godebug = none := by kernel_rfl
theorem laidOut : laidOutB Try.prog = true := by kernel_rfl

set_option maxRecDepth 100000 in
theorem lifted (os : Os) (started : os.Started) (H : Type) (enc : TypeId × Value → H) :
    ReturnsInHanded {} Try.checked os 3 .any (Rows.imageTellsSpec.pre6 enc Try.prog Try.f3 Rows.imageTellsRow.domain false) (Rows.imageTellsSpec.post enc Try.prog Try.f3 false true false false) := by
  refine returnsInHanded_of_change (C := Try.checked) own started (by kernel_rfl) Try.func3
    (ChangeSpec.witness6 (enc := enc) (C := Try.checked) false ⟨#[], #[.slice none 0 0, .slice none 0 0, .int .i64 0, .slice none 0 0], []⟩ 8 (by kernel_rfl) (by kernel_rfl) (by kernel_rfl) (by kernel_rfl)) ?_
  intro W base args ds gs before hval0 hW hcnd _
  have hval : ∀ (j : Nat) t v, Try.f3.params[j]? = some t → args[j]? = some v → Value.okWide Try.prog W .any base t v := hval0
  have hW' := hW
  obtain ⟨p, q, hA0, hV, rfl, hfz, hnd⟩ := hW
  have hA : DataW.TrodAll enc Try.prog W 0 (fun _ => true) true Try.f3.params.toList args.toList ds p := hA0
  rw [Try.params3] at hA hval
  obtain ⟨v0, vs0, d0, ds0, p0, q0, hargs, rfl, rfl, h0, r0⟩ := trodAll_cons hA
  obtain ⟨v1, vs1, d1, ds1, p1, q1, rfl, rfl, rfl, h1, r1⟩ := trodAll_cons r0
  obtain ⟨v2, vs2, d2, ds2, p2, q2, rfl, rfl, rfl, h2, r2⟩ := trodAll_cons r1
  obtain ⟨v3, vs3, d3, ds3, p3, q3, rfl, rfl, rfl, h3, r3⟩ := trodAll_cons r2
  obtain ⟨rfl, rfl, rfl⟩ := trodAll_nil r3
  obtain rfl : args = #[v0, v1, v2, v3] := by cases args; simp_all
  obtain ⟨rfl, rfl⟩ := trodVars_none hV
  obtain ⟨a0, len0, cap0, rfl⟩ := okWide_slice Try.underlying22 (hval 0 22 v0 rfl rfl)
  have k0 := h0
  have lt0 : ∀ x ∈ p0, x.block < W.heap.size := by obtain ⟨m, hm⟩ := k0; exact DataW.trod_lt m _ _ _ hm
  have w0 : IsSts [.num .i64, .num .i64, .num .u8, .num .u8, .num .u8, .num .u8, .num .u8, .num .u8, .num .u8, .num .u8, .num .u8, .num .u8, .num .u8, .num .u8, .num .u8, .num .u8, .num .u8, .num .u8, .num .u8, .num .u8, .num .u8, .num .u8, .num .u8, .num .u8, .num .u8, .num .u8, .num .u8, .num .u8, .num .u8, .num .u8, .num .u8, .num .u8, .num .u8, .num .u8] W a0 len0 cap0 := isSts_of_leaves Try.underlying22 (by kernel_rfl) (fun jj mm hj => by
    match jj, hj with
    | 0, hj => cases hj; exact (Leaf.field (i := 0) Try.underlying46 rfl (Leaf.here Try.underlying3 (by kernel_rfl)) rfl (by decide +kernel) (by decide +kernel))
    | 1, hj => cases hj; exact (Leaf.field (i := 1) Try.underlying46 rfl (Leaf.here Try.underlying3 (by kernel_rfl)) rfl (by decide +kernel) (by decide +kernel))
    | 2, hj => cases hj; exact (Leaf.field (i := 2) Try.underlying46 rfl (Leaf.elem (i := 0) Try.underlying44 (by decide) (Leaf.here Try.underlying5 (by kernel_rfl)) rfl (by decide +kernel) (by decide +kernel)) rfl (by decide +kernel) (by decide +kernel))
    | 3, hj => cases hj; exact (Leaf.field (i := 2) Try.underlying46 rfl (Leaf.elem (i := 1) Try.underlying44 (by decide) (Leaf.here Try.underlying5 (by kernel_rfl)) rfl (by decide +kernel) (by decide +kernel)) rfl (by decide +kernel) (by decide +kernel))
    | 4, hj => cases hj; exact (Leaf.field (i := 2) Try.underlying46 rfl (Leaf.elem (i := 2) Try.underlying44 (by decide) (Leaf.here Try.underlying5 (by kernel_rfl)) rfl (by decide +kernel) (by decide +kernel)) rfl (by decide +kernel) (by decide +kernel))
    | 5, hj => cases hj; exact (Leaf.field (i := 2) Try.underlying46 rfl (Leaf.elem (i := 3) Try.underlying44 (by decide) (Leaf.here Try.underlying5 (by kernel_rfl)) rfl (by decide +kernel) (by decide +kernel)) rfl (by decide +kernel) (by decide +kernel))
    | 6, hj => cases hj; exact (Leaf.field (i := 2) Try.underlying46 rfl (Leaf.elem (i := 4) Try.underlying44 (by decide) (Leaf.here Try.underlying5 (by kernel_rfl)) rfl (by decide +kernel) (by decide +kernel)) rfl (by decide +kernel) (by decide +kernel))
    | 7, hj => cases hj; exact (Leaf.field (i := 2) Try.underlying46 rfl (Leaf.elem (i := 5) Try.underlying44 (by decide) (Leaf.here Try.underlying5 (by kernel_rfl)) rfl (by decide +kernel) (by decide +kernel)) rfl (by decide +kernel) (by decide +kernel))
    | 8, hj => cases hj; exact (Leaf.field (i := 2) Try.underlying46 rfl (Leaf.elem (i := 6) Try.underlying44 (by decide) (Leaf.here Try.underlying5 (by kernel_rfl)) rfl (by decide +kernel) (by decide +kernel)) rfl (by decide +kernel) (by decide +kernel))
    | 9, hj => cases hj; exact (Leaf.field (i := 2) Try.underlying46 rfl (Leaf.elem (i := 7) Try.underlying44 (by decide) (Leaf.here Try.underlying5 (by kernel_rfl)) rfl (by decide +kernel) (by decide +kernel)) rfl (by decide +kernel) (by decide +kernel))
    | 10, hj => cases hj; exact (Leaf.field (i := 2) Try.underlying46 rfl (Leaf.elem (i := 8) Try.underlying44 (by decide) (Leaf.here Try.underlying5 (by kernel_rfl)) rfl (by decide +kernel) (by decide +kernel)) rfl (by decide +kernel) (by decide +kernel))
    | 11, hj => cases hj; exact (Leaf.field (i := 2) Try.underlying46 rfl (Leaf.elem (i := 9) Try.underlying44 (by decide) (Leaf.here Try.underlying5 (by kernel_rfl)) rfl (by decide +kernel) (by decide +kernel)) rfl (by decide +kernel) (by decide +kernel))
    | 12, hj => cases hj; exact (Leaf.field (i := 2) Try.underlying46 rfl (Leaf.elem (i := 10) Try.underlying44 (by decide) (Leaf.here Try.underlying5 (by kernel_rfl)) rfl (by decide +kernel) (by decide +kernel)) rfl (by decide +kernel) (by decide +kernel))
    | 13, hj => cases hj; exact (Leaf.field (i := 2) Try.underlying46 rfl (Leaf.elem (i := 11) Try.underlying44 (by decide) (Leaf.here Try.underlying5 (by kernel_rfl)) rfl (by decide +kernel) (by decide +kernel)) rfl (by decide +kernel) (by decide +kernel))
    | 14, hj => cases hj; exact (Leaf.field (i := 2) Try.underlying46 rfl (Leaf.elem (i := 12) Try.underlying44 (by decide) (Leaf.here Try.underlying5 (by kernel_rfl)) rfl (by decide +kernel) (by decide +kernel)) rfl (by decide +kernel) (by decide +kernel))
    | 15, hj => cases hj; exact (Leaf.field (i := 2) Try.underlying46 rfl (Leaf.elem (i := 13) Try.underlying44 (by decide) (Leaf.here Try.underlying5 (by kernel_rfl)) rfl (by decide +kernel) (by decide +kernel)) rfl (by decide +kernel) (by decide +kernel))
    | 16, hj => cases hj; exact (Leaf.field (i := 2) Try.underlying46 rfl (Leaf.elem (i := 14) Try.underlying44 (by decide) (Leaf.here Try.underlying5 (by kernel_rfl)) rfl (by decide +kernel) (by decide +kernel)) rfl (by decide +kernel) (by decide +kernel))
    | 17, hj => cases hj; exact (Leaf.field (i := 2) Try.underlying46 rfl (Leaf.elem (i := 15) Try.underlying44 (by decide) (Leaf.here Try.underlying5 (by kernel_rfl)) rfl (by decide +kernel) (by decide +kernel)) rfl (by decide +kernel) (by decide +kernel))
    | 18, hj => cases hj; exact (Leaf.field (i := 2) Try.underlying46 rfl (Leaf.elem (i := 16) Try.underlying44 (by decide) (Leaf.here Try.underlying5 (by kernel_rfl)) rfl (by decide +kernel) (by decide +kernel)) rfl (by decide +kernel) (by decide +kernel))
    | 19, hj => cases hj; exact (Leaf.field (i := 2) Try.underlying46 rfl (Leaf.elem (i := 17) Try.underlying44 (by decide) (Leaf.here Try.underlying5 (by kernel_rfl)) rfl (by decide +kernel) (by decide +kernel)) rfl (by decide +kernel) (by decide +kernel))
    | 20, hj => cases hj; exact (Leaf.field (i := 2) Try.underlying46 rfl (Leaf.elem (i := 18) Try.underlying44 (by decide) (Leaf.here Try.underlying5 (by kernel_rfl)) rfl (by decide +kernel) (by decide +kernel)) rfl (by decide +kernel) (by decide +kernel))
    | 21, hj => cases hj; exact (Leaf.field (i := 2) Try.underlying46 rfl (Leaf.elem (i := 19) Try.underlying44 (by decide) (Leaf.here Try.underlying5 (by kernel_rfl)) rfl (by decide +kernel) (by decide +kernel)) rfl (by decide +kernel) (by decide +kernel))
    | 22, hj => cases hj; exact (Leaf.field (i := 2) Try.underlying46 rfl (Leaf.elem (i := 20) Try.underlying44 (by decide) (Leaf.here Try.underlying5 (by kernel_rfl)) rfl (by decide +kernel) (by decide +kernel)) rfl (by decide +kernel) (by decide +kernel))
    | 23, hj => cases hj; exact (Leaf.field (i := 2) Try.underlying46 rfl (Leaf.elem (i := 21) Try.underlying44 (by decide) (Leaf.here Try.underlying5 (by kernel_rfl)) rfl (by decide +kernel) (by decide +kernel)) rfl (by decide +kernel) (by decide +kernel))
    | 24, hj => cases hj; exact (Leaf.field (i := 2) Try.underlying46 rfl (Leaf.elem (i := 22) Try.underlying44 (by decide) (Leaf.here Try.underlying5 (by kernel_rfl)) rfl (by decide +kernel) (by decide +kernel)) rfl (by decide +kernel) (by decide +kernel))
    | 25, hj => cases hj; exact (Leaf.field (i := 2) Try.underlying46 rfl (Leaf.elem (i := 23) Try.underlying44 (by decide) (Leaf.here Try.underlying5 (by kernel_rfl)) rfl (by decide +kernel) (by decide +kernel)) rfl (by decide +kernel) (by decide +kernel))
    | 26, hj => cases hj; exact (Leaf.field (i := 2) Try.underlying46 rfl (Leaf.elem (i := 24) Try.underlying44 (by decide) (Leaf.here Try.underlying5 (by kernel_rfl)) rfl (by decide +kernel) (by decide +kernel)) rfl (by decide +kernel) (by decide +kernel))
    | 27, hj => cases hj; exact (Leaf.field (i := 2) Try.underlying46 rfl (Leaf.elem (i := 25) Try.underlying44 (by decide) (Leaf.here Try.underlying5 (by kernel_rfl)) rfl (by decide +kernel) (by decide +kernel)) rfl (by decide +kernel) (by decide +kernel))
    | 28, hj => cases hj; exact (Leaf.field (i := 2) Try.underlying46 rfl (Leaf.elem (i := 26) Try.underlying44 (by decide) (Leaf.here Try.underlying5 (by kernel_rfl)) rfl (by decide +kernel) (by decide +kernel)) rfl (by decide +kernel) (by decide +kernel))
    | 29, hj => cases hj; exact (Leaf.field (i := 2) Try.underlying46 rfl (Leaf.elem (i := 27) Try.underlying44 (by decide) (Leaf.here Try.underlying5 (by kernel_rfl)) rfl (by decide +kernel) (by decide +kernel)) rfl (by decide +kernel) (by decide +kernel))
    | 30, hj => cases hj; exact (Leaf.field (i := 2) Try.underlying46 rfl (Leaf.elem (i := 28) Try.underlying44 (by decide) (Leaf.here Try.underlying5 (by kernel_rfl)) rfl (by decide +kernel) (by decide +kernel)) rfl (by decide +kernel) (by decide +kernel))
    | 31, hj => cases hj; exact (Leaf.field (i := 2) Try.underlying46 rfl (Leaf.elem (i := 29) Try.underlying44 (by decide) (Leaf.here Try.underlying5 (by kernel_rfl)) rfl (by decide +kernel) (by decide +kernel)) rfl (by decide +kernel) (by decide +kernel))
    | 32, hj => cases hj; exact (Leaf.field (i := 2) Try.underlying46 rfl (Leaf.elem (i := 30) Try.underlying44 (by decide) (Leaf.here Try.underlying5 (by kernel_rfl)) rfl (by decide +kernel) (by decide +kernel)) rfl (by decide +kernel) (by decide +kernel))
    | 33, hj => cases hj; exact (Leaf.field (i := 2) Try.underlying46 rfl (Leaf.elem (i := 31) Try.underlying44 (by decide) (Leaf.here Try.underlying5 (by kernel_rfl)) rfl (by decide +kernel) (by decide +kernel)) rfl (by decide +kernel) (by decide +kernel))
    | (nn + 34), hj => simp at hj) k0
  obtain ⟨a1, len1, cap1, rfl⟩ := okWide_slice Try.underlying22 (hval 1 22 v1 rfl rfl)
  have k1 := h1
  have lt1 : ∀ x ∈ p1, x.block < W.heap.size := by obtain ⟨m, hm⟩ := k1; exact DataW.trod_lt m _ _ _ hm
  have w1 : IsSts [.num .i64, .num .i64, .num .u8, .num .u8, .num .u8, .num .u8, .num .u8, .num .u8, .num .u8, .num .u8, .num .u8, .num .u8, .num .u8, .num .u8, .num .u8, .num .u8, .num .u8, .num .u8, .num .u8, .num .u8, .num .u8, .num .u8, .num .u8, .num .u8, .num .u8, .num .u8, .num .u8, .num .u8, .num .u8, .num .u8, .num .u8, .num .u8, .num .u8, .num .u8] W a1 len1 cap1 := isSts_of_leaves Try.underlying22 (by kernel_rfl) (fun jj mm hj => by
    match jj, hj with
    | 0, hj => cases hj; exact (Leaf.field (i := 0) Try.underlying46 rfl (Leaf.here Try.underlying3 (by kernel_rfl)) rfl (by decide +kernel) (by decide +kernel))
    | 1, hj => cases hj; exact (Leaf.field (i := 1) Try.underlying46 rfl (Leaf.here Try.underlying3 (by kernel_rfl)) rfl (by decide +kernel) (by decide +kernel))
    | 2, hj => cases hj; exact (Leaf.field (i := 2) Try.underlying46 rfl (Leaf.elem (i := 0) Try.underlying44 (by decide) (Leaf.here Try.underlying5 (by kernel_rfl)) rfl (by decide +kernel) (by decide +kernel)) rfl (by decide +kernel) (by decide +kernel))
    | 3, hj => cases hj; exact (Leaf.field (i := 2) Try.underlying46 rfl (Leaf.elem (i := 1) Try.underlying44 (by decide) (Leaf.here Try.underlying5 (by kernel_rfl)) rfl (by decide +kernel) (by decide +kernel)) rfl (by decide +kernel) (by decide +kernel))
    | 4, hj => cases hj; exact (Leaf.field (i := 2) Try.underlying46 rfl (Leaf.elem (i := 2) Try.underlying44 (by decide) (Leaf.here Try.underlying5 (by kernel_rfl)) rfl (by decide +kernel) (by decide +kernel)) rfl (by decide +kernel) (by decide +kernel))
    | 5, hj => cases hj; exact (Leaf.field (i := 2) Try.underlying46 rfl (Leaf.elem (i := 3) Try.underlying44 (by decide) (Leaf.here Try.underlying5 (by kernel_rfl)) rfl (by decide +kernel) (by decide +kernel)) rfl (by decide +kernel) (by decide +kernel))
    | 6, hj => cases hj; exact (Leaf.field (i := 2) Try.underlying46 rfl (Leaf.elem (i := 4) Try.underlying44 (by decide) (Leaf.here Try.underlying5 (by kernel_rfl)) rfl (by decide +kernel) (by decide +kernel)) rfl (by decide +kernel) (by decide +kernel))
    | 7, hj => cases hj; exact (Leaf.field (i := 2) Try.underlying46 rfl (Leaf.elem (i := 5) Try.underlying44 (by decide) (Leaf.here Try.underlying5 (by kernel_rfl)) rfl (by decide +kernel) (by decide +kernel)) rfl (by decide +kernel) (by decide +kernel))
    | 8, hj => cases hj; exact (Leaf.field (i := 2) Try.underlying46 rfl (Leaf.elem (i := 6) Try.underlying44 (by decide) (Leaf.here Try.underlying5 (by kernel_rfl)) rfl (by decide +kernel) (by decide +kernel)) rfl (by decide +kernel) (by decide +kernel))
    | 9, hj => cases hj; exact (Leaf.field (i := 2) Try.underlying46 rfl (Leaf.elem (i := 7) Try.underlying44 (by decide) (Leaf.here Try.underlying5 (by kernel_rfl)) rfl (by decide +kernel) (by decide +kernel)) rfl (by decide +kernel) (by decide +kernel))
    | 10, hj => cases hj; exact (Leaf.field (i := 2) Try.underlying46 rfl (Leaf.elem (i := 8) Try.underlying44 (by decide) (Leaf.here Try.underlying5 (by kernel_rfl)) rfl (by decide +kernel) (by decide +kernel)) rfl (by decide +kernel) (by decide +kernel))
    | 11, hj => cases hj; exact (Leaf.field (i := 2) Try.underlying46 rfl (Leaf.elem (i := 9) Try.underlying44 (by decide) (Leaf.here Try.underlying5 (by kernel_rfl)) rfl (by decide +kernel) (by decide +kernel)) rfl (by decide +kernel) (by decide +kernel))
    | 12, hj => cases hj; exact (Leaf.field (i := 2) Try.underlying46 rfl (Leaf.elem (i := 10) Try.underlying44 (by decide) (Leaf.here Try.underlying5 (by kernel_rfl)) rfl (by decide +kernel) (by decide +kernel)) rfl (by decide +kernel) (by decide +kernel))
    | 13, hj => cases hj; exact (Leaf.field (i := 2) Try.underlying46 rfl (Leaf.elem (i := 11) Try.underlying44 (by decide) (Leaf.here Try.underlying5 (by kernel_rfl)) rfl (by decide +kernel) (by decide +kernel)) rfl (by decide +kernel) (by decide +kernel))
    | 14, hj => cases hj; exact (Leaf.field (i := 2) Try.underlying46 rfl (Leaf.elem (i := 12) Try.underlying44 (by decide) (Leaf.here Try.underlying5 (by kernel_rfl)) rfl (by decide +kernel) (by decide +kernel)) rfl (by decide +kernel) (by decide +kernel))
    | 15, hj => cases hj; exact (Leaf.field (i := 2) Try.underlying46 rfl (Leaf.elem (i := 13) Try.underlying44 (by decide) (Leaf.here Try.underlying5 (by kernel_rfl)) rfl (by decide +kernel) (by decide +kernel)) rfl (by decide +kernel) (by decide +kernel))
    | 16, hj => cases hj; exact (Leaf.field (i := 2) Try.underlying46 rfl (Leaf.elem (i := 14) Try.underlying44 (by decide) (Leaf.here Try.underlying5 (by kernel_rfl)) rfl (by decide +kernel) (by decide +kernel)) rfl (by decide +kernel) (by decide +kernel))
    | 17, hj => cases hj; exact (Leaf.field (i := 2) Try.underlying46 rfl (Leaf.elem (i := 15) Try.underlying44 (by decide) (Leaf.here Try.underlying5 (by kernel_rfl)) rfl (by decide +kernel) (by decide +kernel)) rfl (by decide +kernel) (by decide +kernel))
    | 18, hj => cases hj; exact (Leaf.field (i := 2) Try.underlying46 rfl (Leaf.elem (i := 16) Try.underlying44 (by decide) (Leaf.here Try.underlying5 (by kernel_rfl)) rfl (by decide +kernel) (by decide +kernel)) rfl (by decide +kernel) (by decide +kernel))
    | 19, hj => cases hj; exact (Leaf.field (i := 2) Try.underlying46 rfl (Leaf.elem (i := 17) Try.underlying44 (by decide) (Leaf.here Try.underlying5 (by kernel_rfl)) rfl (by decide +kernel) (by decide +kernel)) rfl (by decide +kernel) (by decide +kernel))
    | 20, hj => cases hj; exact (Leaf.field (i := 2) Try.underlying46 rfl (Leaf.elem (i := 18) Try.underlying44 (by decide) (Leaf.here Try.underlying5 (by kernel_rfl)) rfl (by decide +kernel) (by decide +kernel)) rfl (by decide +kernel) (by decide +kernel))
    | 21, hj => cases hj; exact (Leaf.field (i := 2) Try.underlying46 rfl (Leaf.elem (i := 19) Try.underlying44 (by decide) (Leaf.here Try.underlying5 (by kernel_rfl)) rfl (by decide +kernel) (by decide +kernel)) rfl (by decide +kernel) (by decide +kernel))
    | 22, hj => cases hj; exact (Leaf.field (i := 2) Try.underlying46 rfl (Leaf.elem (i := 20) Try.underlying44 (by decide) (Leaf.here Try.underlying5 (by kernel_rfl)) rfl (by decide +kernel) (by decide +kernel)) rfl (by decide +kernel) (by decide +kernel))
    | 23, hj => cases hj; exact (Leaf.field (i := 2) Try.underlying46 rfl (Leaf.elem (i := 21) Try.underlying44 (by decide) (Leaf.here Try.underlying5 (by kernel_rfl)) rfl (by decide +kernel) (by decide +kernel)) rfl (by decide +kernel) (by decide +kernel))
    | 24, hj => cases hj; exact (Leaf.field (i := 2) Try.underlying46 rfl (Leaf.elem (i := 22) Try.underlying44 (by decide) (Leaf.here Try.underlying5 (by kernel_rfl)) rfl (by decide +kernel) (by decide +kernel)) rfl (by decide +kernel) (by decide +kernel))
    | 25, hj => cases hj; exact (Leaf.field (i := 2) Try.underlying46 rfl (Leaf.elem (i := 23) Try.underlying44 (by decide) (Leaf.here Try.underlying5 (by kernel_rfl)) rfl (by decide +kernel) (by decide +kernel)) rfl (by decide +kernel) (by decide +kernel))
    | 26, hj => cases hj; exact (Leaf.field (i := 2) Try.underlying46 rfl (Leaf.elem (i := 24) Try.underlying44 (by decide) (Leaf.here Try.underlying5 (by kernel_rfl)) rfl (by decide +kernel) (by decide +kernel)) rfl (by decide +kernel) (by decide +kernel))
    | 27, hj => cases hj; exact (Leaf.field (i := 2) Try.underlying46 rfl (Leaf.elem (i := 25) Try.underlying44 (by decide) (Leaf.here Try.underlying5 (by kernel_rfl)) rfl (by decide +kernel) (by decide +kernel)) rfl (by decide +kernel) (by decide +kernel))
    | 28, hj => cases hj; exact (Leaf.field (i := 2) Try.underlying46 rfl (Leaf.elem (i := 26) Try.underlying44 (by decide) (Leaf.here Try.underlying5 (by kernel_rfl)) rfl (by decide +kernel) (by decide +kernel)) rfl (by decide +kernel) (by decide +kernel))
    | 29, hj => cases hj; exact (Leaf.field (i := 2) Try.underlying46 rfl (Leaf.elem (i := 27) Try.underlying44 (by decide) (Leaf.here Try.underlying5 (by kernel_rfl)) rfl (by decide +kernel) (by decide +kernel)) rfl (by decide +kernel) (by decide +kernel))
    | 30, hj => cases hj; exact (Leaf.field (i := 2) Try.underlying46 rfl (Leaf.elem (i := 28) Try.underlying44 (by decide) (Leaf.here Try.underlying5 (by kernel_rfl)) rfl (by decide +kernel) (by decide +kernel)) rfl (by decide +kernel) (by decide +kernel))
    | 31, hj => cases hj; exact (Leaf.field (i := 2) Try.underlying46 rfl (Leaf.elem (i := 29) Try.underlying44 (by decide) (Leaf.here Try.underlying5 (by kernel_rfl)) rfl (by decide +kernel) (by decide +kernel)) rfl (by decide +kernel) (by decide +kernel))
    | 32, hj => cases hj; exact (Leaf.field (i := 2) Try.underlying46 rfl (Leaf.elem (i := 30) Try.underlying44 (by decide) (Leaf.here Try.underlying5 (by kernel_rfl)) rfl (by decide +kernel) (by decide +kernel)) rfl (by decide +kernel) (by decide +kernel))
    | 33, hj => cases hj; exact (Leaf.field (i := 2) Try.underlying46 rfl (Leaf.elem (i := 31) Try.underlying44 (by decide) (Leaf.here Try.underlying5 (by kernel_rfl)) rfl (by decide +kernel) (by decide +kernel)) rfl (by decide +kernel) (by decide +kernel))
    | (nn + 34), hj => simp at hj) k1
  obtain ⟨a2, rfl, rfl, rfl, w2⟩ := open_int Try.underlying3 (hval 2 3 v2 rfl rfl) h2
  obtain ⟨a3, len3, cap3, rfl⟩ := okWide_slice Try.underlying23 (hval 3 23 v3 rfl rfl)
  have k3 := h3
  have lt3 : ∀ x ∈ p3, x.block < W.heap.size := by obtain ⟨m, hm⟩ := k3; exact DataW.trod_lt m _ _ _ hm
  have w3 : IsSts [.num .i64, .num .i64, .num .i64, .num .i64, .row .u8] W a3 len3 cap3 := isSts_of_trod Try.underlying23 Try.underlying41 (by kernel_rfl) (by kernel_rfl) (.cons Try.underlying3 (.cons Try.underlying3 (.cons Try.underlying3 (.cons Try.underlying3 (.cons ⟨5, Try.underlying37, Try.underlying5, by kernel_rfl⟩ .nil))))) k3
  clear hA0 hval0
  refine (ImageTells_walk a0 len0 cap0 a1 len1 cap1 a2 a3 len3 cap3 W w0 w1 w2 w3).mono fun e W' ⟨he, bel⟩ => ?_
  subst he
  exact ⟨_, rfl, _, _, _, [], _, [], hW', trodAll_mk1 (shut_bool Try.underlying4 _), (trodAll_cons_mk (Below.trod laidOut (by kernel_rfl) (of_decide_eq_true (by kernel_rfl)) k0 bel lt0) (trodAll_cons_mk (Below.trod laidOut (by kernel_rfl) (of_decide_eq_true (by kernel_rfl)) k1 bel lt1) (trodAll_cons_mk (shut_int Try.underlying3 w2) (trodAll_cons_mk (Below.trod laidOut (by kernel_rfl) (of_decide_eq_true (by kernel_rfl)) k3 bel lt3) trodAll_mk0)))), rfl, bel.frame _, fun h => by cases h⟩

theorem over : Rows.imageTellsRow.holds Try.pinned (OpenSpec.ofChange Rows.imageTellsSpec) :=
  OpenClaim.holds_of_wide 3 Try.f3 rfl rfl rfl rfl rfl rfl rfl ⟨rfl, rfl, rfl, rfl, rfl⟩ rfl rfl rfl rfl rfl (by kernel_rfl) Try.func3 (by kernel_rfl)
    (of_decide_eq_true (by kernel_rfl)) (by unfold Func.isWrapper; first | (rw [if_pos (by decide +kernel)]; kernel_rfl) | (rw [if_neg (by decide +kernel)]; exact ⟨rfl, rfl⟩))
    (fun os started H enc _ => lifted os started H enc)

/-- The statement. -/
theorem proved : Rows.ImageTellsSaid := over
end Go.Proofs.Ytagageidiebogaa.imageTells
