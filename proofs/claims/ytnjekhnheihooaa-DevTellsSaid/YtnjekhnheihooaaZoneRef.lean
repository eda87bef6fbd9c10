/-
  The document's answers of stage 3: contracts (written by gen_zoneref.py).
-/
import Derived.Test.YtnjekhnheihooaaZoneOwnWalk
namespace Go.Proofs.Ytnjekhnheihooaa
open Go.RowKit Go.Wag
set_option linter.unusedVariables false

set_option maxHeartbeats 1000000 in
theorem refCheck3_any (st rs la size : Int) (A : Option Addr) (n c : Nat) (w : World) :
    Calls Try.prog 37 #[.agg #[.int .i64 st, .int .i64 rs, .slice A n c, .int .i64 la], .int .i64 size] w fun e w' => e = .returned (.bool (chkF st rs n la size)) ∧ Below w.heap.size w w' := by
  go_enter Try.func37, Try.ntmps37
  go_wp2
  all_goals
    go_ret
    go_tidy
    refine ⟨congrArg (fun b => Ending.returned (.bool b)) (?_ : (_ : Bool) = _), (Below.refl _ _).alloc (Nat.le_refl _) _⟩
    rw [Bool.eq_iff_iff]
    simp only [chkF, decide_eq_true_eq]
    first
      | (simp_all; done)
      | (simp_all; omega)

set_option maxHeartbeats 1000000 in
theorem refCopy3_any (st rs la : Int) (A : Option Addr) (n c : Nat) (l : List UInt8) (w : World) (h : Sl w A n c (l.map v8)) (hn : n ≤ 10000000000000) :
    Calls Try.prog 35 #[.agg #[.int .i64 st, .int .i64 rs, .slice A n c, .int .i64 la]] w (ZoneNew w st rs l la) := by
  obtain ⟨i0, hi, hz0, hz1, hz2⟩ := info_parts i5
  have HB := (Below.refl w.heap.size w).alloc (Nat.le_refl _) (.cells #[.int .i64 st, .int .i64 rs, .slice A n c, .int .i64 la] 46)
  have Bz := Blk.new w #[.int .i64 st, .int .i64 rs, .slice A n c, .int .i64 la] 46
  have s0 := h.alloc (.cells #[.int .i64 st, .int .i64 rs, .slice A n c, .int .i64 la] 46)
  have V := Blk.new (w.alloc (.cells #[.int .i64 st, .int .i64 rs, .slice A n c, .int .i64 la] 46)) #[.int .i64 0, .int .i64 0, .slice none 0 0, .int .i64 0] 46
  have bS := (Below.refl (w.alloc (.cells #[.int .i64 st, .int .i64 rs, .slice A n c, .int .i64 la] 46)).heap.size (w.alloc (.cells #[.int .i64 st, .int .i64 rs, .slice A n c, .int .i64 la] 46))).alloc (Nat.le_refl _) (.cells #[.int .i64 0, .int .i64 0, .slice none 0 0, .int .i64 0] 46)
  simp only [World.size_alloc] at V
  go_enter Try.func35, Try.ntmps35
  go_wp2_with fail
  have hs0 : w.heap.size + 1 = (w.alloc (.cells #[.int .i64 st, .int .i64 rs, .slice A n c, .int .i64 la] 46)).heap.size := by simp
  obtain ⟨kv, hkv⟩ : ∃ k, w.heap.size + 1 = k := ⟨_, rfl⟩
  simp only [hkv]
  rw [hkv] at V hs0
  generalize (w.alloc (.cells #[.int .i64 st, .int .i64 rs, .slice A n c, .int .i64 la] 46)).alloc (.cells #[.int .i64 0, .int .i64 0, .slice none 0 0, .int .i64 0] 46) = W1 at *
  generalize w.alloc (.cells #[.int .i64 st, .int .i64 rs, .slice A n c, .int .i64 la] 46) = W0 at *
  have hcv : W0.heap.size ≤ kv := Nat.le_of_eq hs0.symm
  have hcw : w.heap.size ≤ W0.heap.size := HB.size
  clear hs0 hkv
  refine wp_region_held_drew (S := fun w' => Below W0.heap.size W0 w') (by kernel_rfl) (bS.drew) (fun hHeld => ?_)
  have b := hHeld
  replace V := V.drew
  generalize W1.drew = wd at *
  try simp only [Act.put, List.setIfInBounds_toArray, List.set_cons_zero, List.set_cons_succ]
  refine wpAnyH_take (i := 0) (v := ?_) (by simp only [List.getElem?_toArray, List.getElem?_cons_zero]; rfl) (by kernel_rfl) (by kernel_rfl) (by kernel_rfl) (by intro _ _ _ h; exact h) (Or.inl ⟨by rfl, ?_⟩) hHeld ?_
  rotate_left 1
  · intro wq hSw
    try dsimp only at hSw
    go_simp
    try (with_reducible rfl)
  try simp only [Act.put, List.setIfInBounds_toArray, List.set_cons_zero, List.set_cons_succ]
  refine wpAnyH_take (i := 1) (v := ?_) (by simp only [List.getElem?_toArray, List.getElem?_cons_succ, List.getElem?_cons_zero]; rfl) (by kernel_rfl) (by kernel_rfl) (by kernel_rfl) (by intro _ _ _ h; exact h) (Or.inl ⟨by rfl, ?_⟩) hHeld ?_
  rotate_left 1
  · intro wq hSw
    try dsimp only at hSw
    obtain ⟨x0, x1, x2, x3, _⟩ := (Bz.under hSw).four
    go_simp
    try (with_reducible rfl)
  try simp only [Act.put, List.setIfInBounds_toArray, List.set_cons_zero, List.set_cons_succ]
  refine wpAnyH_take (i := 2) (v := ?_) (by simp only [List.getElem?_toArray, List.getElem?_cons_succ, List.getElem?_cons_zero]; rfl) (by kernel_rfl) (by kernel_rfl) (by kernel_rfl) (by intro _ _ _ h; exact h) (Or.inl ⟨by rfl, ?_⟩) hHeld ?_
  rotate_left 1
  · intro wq hSw
    try dsimp only at hSw
    go_simp
    try (with_reducible rfl)
  try simp only [Act.put, List.setIfInBounds_toArray, List.set_cons_zero, List.set_cons_succ]
  refine wpAnyH_take (i := 3) (v := ?_) (by simp only [List.getElem?_toArray, List.getElem?_cons_succ, List.getElem?_cons_zero]; rfl) (by kernel_rfl) (by kernel_rfl) (by kernel_rfl) (by intro _ _ _ h; exact h) (Or.inl ⟨by rfl, ?_⟩) hHeld ?_
  rotate_left 1
  · intro wq hSw
    try dsimp only at hSw
    obtain ⟨x0, x1, x2, x3, _⟩ := (Bz.under hSw).four
    go_simp
    try (with_reducible rfl)
  try simp only [Act.put, List.setIfInBounds_toArray, List.set_cons_zero, List.set_cons_succ]
  refine wpAnyH_take (i := 5) (v := ?_) (by simp only [List.getElem?_toArray, List.getElem?_cons_succ, List.getElem?_cons_zero]; rfl) (by kernel_rfl) (by kernel_rfl) (by kernel_rfl) (by intro _ _ _ h; exact h) (Or.inl ⟨by rfl, ?_⟩) hHeld ?_
  rotate_left 1
  · intro wq hSw
    try dsimp only at hSw
    go_simp
    try (with_reducible rfl)
  try simp only [Act.put, List.setIfInBounds_toArray, List.set_cons_zero, List.set_cons_succ]
  refine wpAnyH_take (i := 6) (v := ?_) (by simp only [List.getElem?_toArray, List.getElem?_cons_succ, List.getElem?_cons_zero]; rfl) (by kernel_rfl) (by kernel_rfl) (by kernel_rfl) (by intro _ _ _ h; exact h) (Or.inl ⟨by rfl, ?_⟩) hHeld ?_
  rotate_left 1
  · intro wq hSw
    try dsimp only at hSw
    obtain ⟨x0, x1, x2, x3, _⟩ := (Bz.under hSw).four
    go_simp
    try (with_reducible rfl)
  try simp only [Act.put, List.setIfInBounds_toArray, List.set_cons_zero, List.set_cons_succ]
  refine wpAnyH_take (i := 8) (v := ?_) (by simp only [List.getElem?_toArray, List.getElem?_cons_succ, List.getElem?_cons_zero]; rfl) (by kernel_rfl) (by kernel_rfl) (by kernel_rfl) (by intro _ _ _ h; exact h) (Or.inl ⟨by rfl, ?_⟩) hHeld ?_
  rotate_left 1
  · intro wq hSw
    try dsimp only at hSw
    go_simp
    try (with_reducible rfl)
  try simp only [Act.put, List.setIfInBounds_toArray, List.set_cons_zero, List.set_cons_succ]
  refine wpAnyH_take (i := 9) (v := ?_) (by simp only [List.getElem?_toArray, List.getElem?_cons_succ, List.getElem?_cons_zero]; rfl) (by kernel_rfl) (by kernel_rfl) (by kernel_rfl) (by intro _ _ _ h; exact h) (Or.inl ⟨by rfl, ?_⟩) hHeld ?_
  rotate_left 1
  · intro wq hSw
    try dsimp only at hSw
    obtain ⟨x0, x1, x2, x3, _⟩ := (Bz.under hSw).four
    go_simp
    try (with_reducible rfl)
  try simp only [Act.put, List.setIfInBounds_toArray, List.set_cons_zero, List.set_cons_succ]
  refine wpAnyH_ready (rs := [4]) (by kernel_rfl) (by simp) ?_
  refine AllReadyH.cons (by simp only [List.getElem?_toArray, List.getElem?_cons_succ, List.getElem?_cons_zero]; rfl) (fun K hK => ?_) AllReadyH.nil
  go_simp
  have O := built_own wd #[] 5 [] 0 rfl rfl (by decide) b.size
  have hneU := slice_ne 0 V.lt
  replace V := V.alloc (.cells #[] 5)
  replace b := b.alloc b.size (.cells #[] 5)
  generalize hu7 : Value.slice (some ⟨wd.heap.size, 0, none⟩) 0 0 = u7 at *
  generalize wd.alloc (.cells #[] 5) = w_4_1 at *
  refine hK.out _ _ b (fun hHeld => ?_)
  clear hK K
  try simp only [Act.put, List.setIfInBounds_toArray, List.set_cons_zero, List.set_cons_succ]
  refine wpAnyH_ready (rs := [7]) (by kernel_rfl) (by simp) ?_
  refine AllReadyH.cons (by simp only [List.getElem?_toArray, List.getElem?_cons_succ, List.getElem?_cons_zero]; rfl) (fun K hK => ?_) AllReadyH.nil
  obtain ⟨Ar, cr, w_7_2, hr, hO⟩ := run_app (P := Try.prog) (Own.start O b.size) 31 31 i0 (.int .u8 0) 1 Try.underlying31 hi hz0 hz1 hz2 rfl _ _ _ _ (s0.below b) (oneCell8 _) (by omega) (by omega)
  refine (if_pos (by rfl)).mpr (wp_app (Operand.tmp 7) (Operand.tmp 9) 31 rfl rfl rfl hr ?_)
  try simp only [Act.put, List.setIfInBounds_toArray, List.set_cons_zero, List.set_cons_succ]
  have hneU2 := own_ne_step hO hneU V.lt
  replace V := V.own hO hneU
  replace hneU := hneU2
  clear hneU2
  replace b := own_below O hO b
  replace O := hO.own
  simp only [List.nil_append, Nat.zero_add] at O ⊢
  have N := O
  have hneA : ∀ ad, Ar = some ad → ad.block ≠ kv := fun ad hA => hneU ad.block (by rw [hA]; rfl)
  clear hr hO O
  refine hK.out _ _ b (fun hHeld => ?_)
  clear hK K
  try simp only [Act.put, List.setIfInBounds_toArray, List.set_cons_zero, List.set_cons_succ]
  refine wpAnyH_take (i := 10) (v := ?_) (by simp only [List.getElem?_toArray, List.getElem?_cons_succ, List.getElem?_cons_zero]; rfl) (by kernel_rfl) (by kernel_rfl) (by kernel_rfl) (by intro _ _ _ h; exact h) (Or.inl ⟨by rfl, ?_⟩) hHeld ?_
  rotate_left 1
  · intro wq hSw
    try dsimp only at hSw
    go_simp
    try (with_reducible rfl)
  try simp only [Act.put, List.setIfInBounds_toArray, List.set_cons_zero, List.set_cons_succ]
  refine wpAnyH_ready (rs := [11]) (by kernel_rfl) (by simp) ?_
  refine AllReadyH.cons (by simp only [List.getElem?_toArray, List.getElem?_cons_succ, List.getElem?_cons_zero]; rfl) (fun K hK => ?_) AllReadyH.nil
  obtain ⟨z0, z1, z2, z3, i0', i1', i2', i3'⟩ := V.four
  go_simp
  skip
  have V2 := ((((V.set 0 (.int .i64 st)).set 1 (.int .i64 rs)).set 2 (.slice Ar n cr)).set 3 (.int .i64 la))
  simp only [List.setIfInBounds_toArray, List.set_cons_zero, List.set_cons_succ] at V2
  have N2 := (own_far (own_far (own_far (own_far N (a := ⟨kv, 0, none⟩) hneA (.int .i64 st)) (a := ⟨kv, 1, none⟩) hneA (.int .i64 rs)) (a := ⟨kv, 2, none⟩) hneA (.slice Ar n cr)) (a := ⟨kv, 3, none⟩) hneA (.int .i64 la))
  have b2 := ((((b.setCell (p := ⟨kv, 0, none⟩) hcv (.int .i64 st)).setCell (p := ⟨kv, 1, none⟩) hcv (.int .i64 rs)).setCell (p := ⟨kv, 2, none⟩) hcv (.slice Ar n cr)).setCell (p := ⟨kv, 3, none⟩) hcv (.int .i64 la))
  clear z0 z1 z2 z3 i0' i1' i2' i3'
  clear V N b
  generalize ((((w_7_2.setCell ⟨kv, 0, none⟩ (.int .i64 st)).setCell ⟨kv, 1, none⟩ (.int .i64 rs)).setCell ⟨kv, 2, none⟩ (.slice Ar n cr)).setCell ⟨kv, 3, none⟩ (.int .i64 la)) = w_11_3 at *
  have V := V2
  have N := N2
  have b := b2
  clear V2 N2 b2
  refine hK.out _ _ b (fun hHeld => ?_)
  clear hK K
  try simp only [Act.put, List.setIfInBounds_toArray, List.set_cons_zero, List.set_cons_succ]
  refine wpAnyH_done (by kernel_rfl) ?_ _
  go_wp2
  try simp only [Exit.inBlock, Exit.then]
  exact ret_blk rfl rfl V Try.underlying46 (by kernel_rfl) (ZoneNew.mk (own_base N hcw) (HB.trans (b.mono HB.size)))
end Go.Proofs.Ytnjekhnheihooaa
