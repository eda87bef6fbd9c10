/-
  'waggoner/waggonerlaw09.ImageDoes' answers true at every input, and each argument reads afterwards as it read before ('Rows.ImageDoesSaid'). No condition. The walk: YtepaojegcaapfaaImageDoesWalk.
-/
import Derived.Test.YtepaojegcaapfaaImageDoesWalk
import Derived.ProofKit
import Derived.OpenShut
import Derived.ShutString
import Derived.ChangeOld
import Derived.Lib.SmallJoins
import Derived.Test.YtepaojegcaapfaaLeaf
namespace Go.Proofs.Ytepaojegcaapfaa.imageDoes
open Go.ChangeShapes Go.WideShapes Go.ChangeAt Go.RowKit Go.Wag
open Go.ChangeMaps (open_string shut_string)
set_option linter.unusedVariables false

theorem own : ownKnob Try.prog.godebug = none := by kernel_rfl
theorem laidOut : laidOutB Try.prog = true := by kernel_rfl

set_option maxRecDepth 100000 in
theorem lifted (os : Os) (started : os.Started) (H : Type) (enc : TypeId × Value → H) :
    ReturnsInHanded {} Try.checked os 7 .any (Rows.imageDoesSpec.pre6 enc Try.prog Try.f7 Rows.imageDoesRow.domain false) (Rows.imageDoesSpec.post enc Try.prog Try.f7 false true false false) := by
  refine returnsInHanded_of_change (C := Try.checked) own started (by kernel_rfl) Try.func7
    (ChangeSpec.witness6 (enc := enc) (C := Try.checked) false ⟨#[], #[.slice none 0 0, .int .i64 0, .int .i64 0, .int .i64 0, .int .i64 0, .slice none 0 0], []⟩ 8 (by kernel_rfl) (by kernel_rfl) (by kernel_rfl) (by kernel_rfl)) ?_
  intro W base args ds gs before hval0 hW hcnd _
  have hval : ∀ (j : Nat) t v, Try.f7.params[j]? = some t → args[j]? = some v → Value.okWide Try.prog W .any base t v := hval0
  have hW' := hW
  obtain ⟨p, q, hA0, hV, rfl, hfz, hnd⟩ := hW
  have hA : DataW.TrodAll enc Try.prog W 0 (fun _ => true) true Try.f7.params.toList args.toList ds p := hA0
  rw [Try.params7] at hA hval
  obtain ⟨v0, vs0, d0, ds0, p0, q0, hargs, rfl, rfl, h0, r0⟩ := trodAll_cons hA
  obtain ⟨v1, vs1, d1, ds1, p1, q1, rfl, rfl, rfl, h1, r1⟩ := trodAll_cons r0
  obtain ⟨v2, vs2, d2, ds2, p2, q2, rfl, rfl, rfl, h2, r2⟩ := trodAll_cons r1
  obtain ⟨v3, vs3, d3, ds3, p3, q3, rfl, rfl, rfl, h3, r3⟩ := trodAll_cons r2
  obtain ⟨v4, vs4, d4, ds4, p4, q4, rfl, rfl, rfl, h4, r4⟩ := trodAll_cons r3
  obtain ⟨v5, vs5, d5, ds5, p5, q5, rfl, rfl, rfl, h5, r5⟩ := trodAll_cons r4
  obtain ⟨rfl, rfl, rfl⟩ := trodAll_nil r5
  obtain rfl : args = #[v0, v1, v2, v3, v4, v5] := by cases args; simp_all
  obtain ⟨rfl, rfl⟩ := trodVars_none hV
  obtain ⟨a0, len0, cap0, rfl⟩ := okWide_slice Try.underlying48 (hval 0 48 v0 rfl rfl)
  have k0 := h0
  have lt0 : ∀ x ∈ p0, x.block < W.heap.size := by obtain ⟨m, hm⟩ := k0; exact DataW.trod_lt m _ _ _ hm
  have w0 : IsSts [.num .i64, .num .i64, .num .u8, .num .u8, .num .u8, .num .u8, .num .u8, .num .u8, .num .u8, .num .u8, .num .u8, .num .u8, .num .u8, .num .u8, .num .u8, .num .u8, .num .u8, .num .u8, .num .u8, .num .u8, .num .u8, .num .u8, .num .u8, .num .u8, .num .u8, .num .u8, .num .u8, .num .u8, .num .u8, .num .u8, .num .u8, .num .u8, .num .u8, .num .u8] W a0 len0 cap0 := isSts_of_leaves Try.underlying48 (by kernel_rfl) (fun jj mm hj => by
    match jj, hj with
    | 0, hj => cases hj; exact (Leaf.field (i := 0) Try.underlying62 rfl (Leaf.here Try.underlying3 (by kernel_rfl)) rfl (by decide +kernel) (by decide +kernel))
    | 1, hj => cases hj; exact (Leaf.field (i := 1) Try.underlying62 rfl (Leaf.here Try.underlying3 (by kernel_rfl)) rfl (by decide +kernel) (by decide +kernel))
    | 2, hj => cases hj; exact (Leaf.field (i := 2) Try.underlying62 rfl (Leaf.elem (i := 0) Try.underlying60 (by decide) (Leaf.here Try.underlying5 (by kernel_rfl)) rfl (by decide +kernel) (by decide +kernel)) rfl (by decide +kernel) (by decide +kernel))
    | 3, hj => cases hj; exact (Leaf.field (i := 2) Try.underlying62 rfl (Leaf.elem (i := 1) Try.underlying60 (by decide) (Leaf.here Try.underlying5 (by kernel_rfl)) rfl (by decide +kernel) (by decide +kernel)) rfl (by decide +kernel) (by decide +kernel))
    | 4, hj => cases hj; exact (Leaf.field (i := 2) Try.underlying62 rfl (Leaf.elem (i := 2) Try.underlying60 (by decide) (Leaf.here Try.underlying5 (by kernel_rfl)) rfl (by decide +kernel) (by decide +kernel)) rfl (by decide +kernel) (by decide +kernel))
    | 5, hj => cases hj; exact (Leaf.field (i := 2) Try.underlying62 rfl (Leaf.elem (i := 3) Try.underlying60 (by decide) (Leaf.here Try.underlying5 (by kernel_rfl)) rfl (by decide +kernel) (by decide +kernel)) rfl (by decide +kernel) (by decide +kernel))
    | 6, hj => cases hj; exact (Leaf.field (i := 2) Try.underlying62 rfl (Leaf.elem (i := 4) Try.underlying60 (by decide) (Leaf.here Try.underlying5 (by kernel_rfl)) rfl (by decide +kernel) (by decide +kernel)) rfl (by decide +kernel) (by decide +kernel))
    | 7, hj => cases hj; exact (Leaf.field (i := 2) Try.underlying62 rfl (Leaf.elem (i := 5) Try.underlying60 (by decide) (Leaf.here Try.underlying5 (by kernel_rfl)) rfl (by decide +kernel) (by decide +kernel)) rfl (by decide +kernel) (by decide +kernel))
    | 8, hj => cases hj; exact (Leaf.field (i := 2) Try.underlying62 rfl (Leaf.elem (i := 6) Try.underlying60 (by decide) (Leaf.here Try.underlying5 (by kernel_rfl)) rfl (by decide +kernel) (by decide +kernel)) rfl (by decide +kernel) (by decide +kernel))
    | 9, hj => cases hj; exact (Leaf.field (i := 2) Try.underlying62 rfl (Leaf.elem (i := 7) Try.underlying60 (by decide) (Leaf.here Try.underlying5 (by kernel_rfl)) rfl (by decide +kernel) (by decide +kernel)) rfl (by decide +kernel) (by decide +kernel))
    | 10, hj => cases hj; exact (Leaf.field (i := 2) Try.underlying62 rfl (Leaf.elem (i := 8) Try.underlying60 (by decide) (Leaf.here Try.underlying5 (by kernel_rfl)) rfl (by decide +kernel) (by decide +kernel)) rfl (by decide +kernel) (by decide +kernel))
    | 11, hj => cases hj; exact (Leaf.field (i := 2) Try.underlying62 rfl (Leaf.elem (i := 9) Try.underlying60 (by decide) (Leaf.here Try.underlying5 (by kernel_rfl)) rfl (by decide +kernel) (by decide +kernel)) rfl (by decide +kernel) (by decide +kernel))
    | 12, hj => cases hj; exact (Leaf.field (i := 2) Try.underlying62 rfl (Leaf.elem (i := 10) Try.underlying60 (by decide) (Leaf.here Try.underlying5 (by kernel_rfl)) rfl (by decide +kernel) (by decide +kernel)) rfl (by decide +kernel) (by decide +kernel))
    | 13, hj => cases hj; exact (Leaf.field (i := 2) Try.underlying62 rfl (Leaf.elem (i := 11) Try.underlying60 (by decide) (Leaf.here Try.underlying5 (by kernel_rfl)) rfl (by decide +kernel) (by decide +kernel)) rfl (by decide +kernel) (by decide +kernel))
    | 14, hj => cases hj; exact (Leaf.field (i := 2) Try.underlying62 rfl (Leaf.elem (i := 12) Try.underlying60 (by decide) (Leaf.here Try.underlying5 (by kernel_rfl)) rfl (by decide +kernel) (by decide +kernel)) rfl (by decide +kernel) (by decide +kernel))
    | 15, hj => cases hj; exact (Leaf.field (i := 2) Try.underlying62 rfl (Leaf.elem (i := 13) Try.underlying60 (by decide) (Leaf.here Try.underlying5 (by kernel_rfl)) rfl (by decide +kernel) (by decide +kernel)) rfl (by decide +kernel) (by decide +kernel))
    | 16, hj => cases hj; exact (Leaf.field (i := 2) Try.underlying62 rfl (Leaf.elem (i := 14) Try.underlying60 (by decide) (Leaf.here Try.underlying5 (by kernel_rfl)) rfl (by decide +kernel) (by decide +kernel)) rfl (by decide +kernel) (by decide +kernel))
    | 17, hj => cases hj; exact (Leaf.field (i := 2) Try.underlying62 rfl (Leaf.elem (i := 15) Try.underlying60 (by decide) (Leaf.here Try.underlying5 (by kernel_rfl)) rfl (by decide +kernel) (by decide +kernel)) rfl (by decide +kernel) (by decide +kernel))
    | 18, hj => cases hj; exact (Leaf.field (i := 2) Try.underlying62 rfl (Leaf.elem (i := 16) Try.underlying60 (by decide) (Leaf.here Try.underlying5 (by kernel_rfl)) rfl (by decide +kernel) (by decide +kernel)) rfl (by decide +kernel) (by decide +kernel))
    | 19, hj => cases hj; exact (Leaf.field (i := 2) Try.underlying62 rfl (Leaf.elem (i := 17) Try.underlying60 (by decide) (Leaf.here Try.underlying5 (by kernel_rfl)) rfl (by decide +kernel) (by decide +kernel)) rfl (by decide +kernel) (by decide +kernel))
    | 20, hj => cases hj; exact (Leaf.field (i := 2) Try.underlying62 rfl (Leaf.elem (i := 18) Try.underlying60 (by decide) (Leaf.here Try.underlying5 (by kernel_rfl)) rfl (by decide +kernel) (by decide +kernel)) rfl (by decide +kernel) (by decide +kernel))
    | 21, hj => cases hj; exact (Leaf.field (i := 2) Try.underlying62 rfl (Leaf.elem (i := 19) Try.underlying60 (by decide) (Leaf.here Try.underlying5 (by kernel_rfl)) rfl (by decide +kernel) (by decide +kernel)) rfl (by decide +kernel) (by decide +kernel))
    | 22, hj => cases hj; exact (Leaf.field (i := 2) Try.underlying62 rfl (Leaf.elem (i := 20) Try.underlying60 (by decide) (Leaf.here Try.underlying5 (by kernel_rfl)) rfl (by decide +kernel) (by decide +kernel)) rfl (by decide +kernel) (by decide +kernel))
    | 23, hj => cases hj; exact (Leaf.field (i := 2) Try.underlying62 rfl (Leaf.elem (i := 21) Try.underlying60 (by decide) (Leaf.here Try.underlying5 (by kernel_rfl)) rfl (by decide +kernel) (by decide +kernel)) rfl (by decide +kernel) (by decide +kernel))
    | 24, hj => cases hj; exact (Leaf.field (i := 2) Try.underlying62 rfl (Leaf.elem (i := 22) Try.underlying60 (by decide) (Leaf.here Try.underlying5 (by kernel_rfl)) rfl (by decide +kernel) (by decide +kernel)) rfl (by decide +kernel) (by decide +kernel))
    | 25, hj => cases hj; exact (Leaf.field (i := 2) Try.underlying62 rfl (Leaf.elem (i := 23) Try.underlying60 (by decide) (Leaf.here Try.underlying5 (by kernel_rfl)) rfl (by decide +kernel) (by decide +kernel)) rfl (by decide +kernel) (by decide +kernel))
    | 26, hj => cases hj; exact (Leaf.field (i := 2) Try.underlying62 rfl (Leaf.elem (i := 24) Try.underlying60 (by decide) (Leaf.here Try.underlying5 (by kernel_rfl)) rfl (by decide +kernel) (by decide +kernel)) rfl (by decide +kernel) (by decide +kernel))
    | 27, hj => cases hj; exact (Leaf.field (i := 2) Try.underlying62 rfl (Leaf.elem (i := 25) Try.underlying60 (by decide) (Leaf.here Try.underlying5 (by kernel_rfl)) rfl (by decide +kernel) (by decide +kernel)) rfl (by decide +kernel) (by decide +kernel))
    | 28, hj => cases hj; exact (Leaf.field (i := 2) Try.underlying62 rfl (Leaf.elem (i := 26) Try.underlying60 (by decide) (Leaf.here Try.underlying5 (by kernel_rfl)) rfl (by decide +kernel) (by decide +kernel)) rfl (by decide +kernel) (by decide +kernel))
    | 29, hj => cases hj; exact (Leaf.field (i := 2) Try.underlying62 rfl (Leaf.elem (i := 27) Try.underlying60 (by decide) (Leaf.here Try.underlying5 (by kernel_rfl)) rfl (by decide +kernel) (by decide +kernel)) rfl (by decide +kernel) (by decide +kernel))
    | 30, hj => cases hj; exact (Leaf.field (i := 2) Try.underlying62 rfl (Leaf.elem (i := 28) Try.underlying60 (by decide) (Leaf.here Try.underlying5 (by kernel_rfl)) rfl (by decide +kernel) (by decide +kernel)) rfl (by decide +kernel) (by decide +kernel))
    | 31, hj => cases hj; exact (Leaf.field (i := 2) Try.underlying62 rfl (Leaf.elem (i := 29) Try.underlying60 (by decide) (Leaf.here Try.underlying5 (by kernel_rfl)) rfl (by decide +kernel) (by decide +kernel)) rfl (by decide +kernel) (by decide +kernel))
    | 32, hj => cases hj; exact (Leaf.field (i := 2) Try.underlying62 rfl (Leaf.elem (i := 30) Try.underlying60 (by decide) (Leaf.here Try.underlying5 (by kernel_rfl)) rfl (by decide +kernel) (by decide +kernel)) rfl (by decide +kernel) (by decide +kernel))
    | 33, hj => cases hj; exact (Leaf.field (i := 2) Try.underlying62 rfl (Leaf.elem (i := 31) Try.underlying60 (by decide) (Leaf.here Try.underlying5 (by kernel_rfl)) rfl (by decide +kernel) (by decide +kernel)) rfl (by decide +kernel) (by decide +kernel))
    | (nn + 34), hj => simp at hj) k0
  obtain ⟨a1, rfl, rfl, rfl, w1⟩ := open_int Try.underlying3 (hval 1 3 v1 rfl rfl) h1
  obtain ⟨a2, rfl, rfl, rfl, w2⟩ := open_int Try.underlying3 (hval 2 3 v2 rfl rfl) h2
  obtain ⟨a3, rfl, rfl, rfl, w3⟩ := open_int Try.underlying3 (hval 3 3 v3 rfl rfl) h3
  obtain ⟨a4, rfl, rfl, rfl, w4⟩ := open_int Try.underlying3 (hval 4 3 v4 rfl rfl) h4
  obtain ⟨a5, len5, cap5, rfl⟩ := okWide_slice Try.underlying23 (hval 5 23 v5 rfl rfl)
  have k5 := h5
  have lt5 : ∀ x ∈ p5, x.block < W.heap.size := by obtain ⟨m, hm⟩ := k5; exact DataW.trod_lt m _ _ _ hm
  obtain ⟨z5, w5⟩ : ∃ zs, IsRow .u8 W a5 len5 cap5 zs := by
    obtain ⟨fuel, hf⟩ := h5
    rcases open_ints Try.underlying23 Try.underlying5 (by kernel_rfl) hf with ⟨hcs, _⟩ | ⟨x, l, c, zs, hcs, _, hl, hm, hz, _, hcell, hwz⟩
    · simp [Value.cells] at hcs
      obtain ⟨rfl, rfl, rfl⟩ := hcs
      exact ⟨[], .inl ⟨rfl, rfl, rfl, rfl⟩⟩
    · simp [Value.cells] at hcs
      obtain ⟨rfl, rfl, rfl⟩ := hcs
      exact ⟨zs, .inr ⟨_, rfl, hl, hm, by simpa using hz, hcell, hwz⟩⟩
  clear hA0 hval0
  refine (ImageDoes_walk a0 len0 cap0 a1 a2 a3 a4 a5 len5 cap5 z5 W w0 w1 w2 w3 w4 w5).mono fun e W' ⟨he, bel⟩ => ?_
  subst he
  exact ⟨_, rfl, _, _, _, [], _, [], hW', trodAll_mk1 (shut_bool Try.underlying4 _), (trodAll_cons_mk (Below.trod laidOut (by kernel_rfl) (of_decide_eq_true (by kernel_rfl)) k0 bel lt0) (trodAll_cons_mk (shut_int Try.underlying3 w1) (trodAll_cons_mk (shut_int Try.underlying3 w2) (trodAll_cons_mk (shut_int Try.underlying3 w3) (trodAll_cons_mk (shut_int Try.underlying3 w4) (trodAll_cons_mk (Below.trod laidOut (by kernel_rfl) (of_decide_eq_true (by kernel_rfl)) k5 bel lt5) trodAll_mk0)))))), rfl, bel.frame _, fun h => by cases h⟩

theorem over : Rows.imageDoesRow.holds Try.pinned (OpenSpec.ofChange Rows.imageDoesSpec) :=
  OpenClaim.holds_of_wide 7 Try.f7 rfl rfl rfl rfl rfl rfl rfl ⟨rfl, rfl, rfl, rfl, rfl⟩ rfl rfl rfl rfl rfl (by kernel_rfl) Try.func7 (by kernel_rfl)
    (of_decide_eq_true (by kernel_rfl)) (by unfold Func.isWrapper; first | (rw [if_pos (by decide +kernel)]; kernel_rfl) | (rw [if_neg (by decide +kernel)]; exact ⟨rfl, rfl⟩))
    (fun os started H enc _ => lifted os started H enc)

/-- The statement. -/
theorem proved : Rows.ImageDoesSaid := over
end Go.Proofs.Ytepaojegcaapfaa.imageDoes
