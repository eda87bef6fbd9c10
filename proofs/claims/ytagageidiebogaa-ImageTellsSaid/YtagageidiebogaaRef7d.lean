/-
  Contracts of the document's Copy and Join of extents (written by gen_ref7d.py).
-/
import Derived.Test.YtagageidiebogaaExA
namespace Go.Proofs.Ytagageidiebogaa
open Go.RowKit Go.Wag
set_option linter.unusedVariables false
set_option maxRecDepth 20000
/-- An extent in memory of its own. -/
def XPost (w : World) (x : Xp) (e : Ending) (w' : World) : Prop :=
  ∃ A c, e = .returned (.agg #[.int .i64 x.la, .int .i64 x.n, .int .i64 x.k, .int .i64 x.g, .slice A x.l.length c]) ∧ Nw 5 w w' A x.l.length c (x.l.map v8) ∧ Below w.heap.size w w'
theorem XPost.mk {w w' : World} {x : Xp} {A : Option Addr} {m c : Nat} (h5 : x.l.length = m) (hN : Nw 5 w w' A m c (x.l.map v8)) (hb : Below w.heap.size w w') :
    XPost w x (.returned (.agg #[.int .i64 x.la, .int .i64 x.n, .int .i64 x.k, .int .i64 x.g, .slice A m c])) w' := by
  subst h5
  exact ⟨A, c, rfl, hN, hb⟩
set_option maxHeartbeats 2000000 in
theorem fCopy_any (la n k g : Int) (A : Option Addr) (m c : Nat) (l : List UInt8) (w : World) (h : Sl w A m c (l.map v8)) (hm : m ≤ 10000000000000) :
    Calls Try.prog 48 #[.agg #[.int .i64 la, .int .i64 n, .int .i64 k, .int .i64 g, .slice A m c]] w (XPost w ⟨la, n, k, g, l⟩) := by
  have hl : l.length = m := h.len8
  obtain ⟨i0, hi, hz0, hz1, hz2⟩ := info_parts i5
  have V := (Blk.new w #[.int .i64 la, .int .i64 n, .int .i64 k, .int .i64 g, .slice A m c] 41).alloc (.cells #[.int .i64 0, .int .i64 0, .int .i64 0, .int .i64 0, .slice none 0 0] 41)
  have U := Blk.new (w.alloc (.cells #[.int .i64 la, .int .i64 n, .int .i64 k, .int .i64 g, .slice A m c] 41)) #[.int .i64 0, .int .i64 0, .int .i64 0, .int .i64 0, .slice none 0 0] 41
  have bb := ((Below.refl w.heap.size w).alloc (Nat.le_refl _) (.cells #[.int .i64 la, .int .i64 n, .int .i64 k, .int .i64 g, .slice A m c] 41)).alloc (by simp) (.cells #[.int .i64 0, .int .i64 0, .int .i64 0, .int .i64 0, .slice none 0 0] 41)
  replace h := (h.alloc (.cells #[.int .i64 la, .int .i64 n, .int .i64 k, .int .i64 g, .slice A m c] 41)).alloc (.cells #[.int .i64 0, .int .i64 0, .int .i64 0, .int .i64 0, .slice none 0 0] 41)
  simp only [World.size_alloc] at U
  go_enter Try.func48, Try.ntmps48
  go_wp2_with fail
  generalize (w.alloc (.cells #[.int .i64 la, .int .i64 n, .int .i64 k, .int .i64 g, .slice A m c] 41)).alloc (.cells #[.int .i64 0, .int .i64 0, .int .i64 0, .int .i64 0, .slice none 0 0] 41) = w5 at *
  refine wp_region_held_drew (S := fun w' => Below (w.heap.size + 1) w5 w') (by kernel_rfl) (Below.refl _ _).drew (fun hHeld => ?_)
  try dsimp only at hHeld
  have bd : Below (w.heap.size + 1) w5 w5.drew := (Below.refl (w.heap.size + 1) w5).drew
  replace h := h.drew
  replace U := U.drew
  generalize w5.drew = wd at *
  try simp only [Act.put, List.setIfInBounds_toArray, List.set_cons_zero, List.set_cons_succ]
  refine wpAnyH_take (i := 0) (v := ?_) (by simp only [List.getElem?_toArray, List.getElem?_cons_zero]; rfl) (by kernel_rfl) (by kernel_rfl) (by kernel_rfl) (by intro _ _ _ h; exact h) (Or.inl ⟨by rfl, ?_⟩) hHeld ?_
  rotate_left 1
  · intro wq hSw
    try dsimp only at hSw
    go_simp
    try (with_reducible rfl)
  try simp only [Act.put, List.setIfInBounds_toArray, List.set_cons_zero, List.set_cons_succ]
  refine wpAnyH_take (i := 1) (v := ?_) (by simp only [List.getElem?_toArray, List.getElem?_cons_succ, List.getElem?_cons_zero]; rfl) (by kernel_rfl) (by kernel_rfl) (by kernel_rfl) (by intro _ _ _ h; exact h) (Or.inl ⟨by rfl, ?_⟩) hHeld ?_
  rotate_left 1
  · intro wq hSw
    try dsimp only at hSw
    obtain ⟨x0, x1, x2, x3, x4, _⟩ := (V.below hSw (Nat.lt_succ_self _)).five
    go_simp
    try (with_reducible rfl)
  try simp only [Act.put, List.setIfInBounds_toArray, List.set_cons_zero, List.set_cons_succ]
  refine wpAnyH_take (i := 2) (v := ?_) (by simp only [List.getElem?_toArray, List.getElem?_cons_succ, List.getElem?_cons_zero]; rfl) (by kernel_rfl) (by kernel_rfl) (by kernel_rfl) (by intro _ _ _ h; exact h) (Or.inl ⟨by rfl, ?_⟩) hHeld ?_
  rotate_left 1
  · intro wq hSw
    try dsimp only at hSw
    go_simp
    try (with_reducible rfl)
  try simp only [Act.put, List.setIfInBounds_toArray, List.set_cons_zero, List.set_cons_succ]
  refine wpAnyH_take (i := 3) (v := ?_) (by simp only [List.getElem?_toArray, List.getElem?_cons_succ, List.getElem?_cons_zero]; rfl) (by kernel_rfl) (by kernel_rfl) (by kernel_rfl) (by intro _ _ _ h; exact h) (Or.inl ⟨by rfl, ?_⟩) hHeld ?_
  rotate_left 1
  · intro wq hSw
    try dsimp only at hSw
    obtain ⟨x0, x1, x2, x3, x4, _⟩ := (V.below hSw (Nat.lt_succ_self _)).five
    go_simp
    try (with_reducible rfl)
  try simp only [Act.put, List.setIfInBounds_toArray, List.set_cons_zero, List.set_cons_succ]
  refine wpAnyH_take (i := 4) (v := ?_) (by simp only [List.getElem?_toArray, List.getElem?_cons_succ, List.getElem?_cons_zero]; rfl) (by kernel_rfl) (by kernel_rfl) (by kernel_rfl) (by intro _ _ _ h; exact h) (Or.inl ⟨by rfl, ?_⟩) hHeld ?_
  rotate_left 1
  · intro wq hSw
    try dsimp only at hSw
    go_simp
    try (with_reducible rfl)
  try simp only [Act.put, List.setIfInBounds_toArray, List.set_cons_zero, List.set_cons_succ]
  refine wpAnyH_take (i := 5) (v := ?_) (by simp only [List.getElem?_toArray, List.getElem?_cons_succ, List.getElem?_cons_zero]; rfl) (by kernel_rfl) (by kernel_rfl) (by kernel_rfl) (by intro _ _ _ h; exact h) (Or.inl ⟨by rfl, ?_⟩) hHeld ?_
  rotate_left 1
  · intro wq hSw
    try dsimp only at hSw
    obtain ⟨x0, x1, x2, x3, x4, _⟩ := (V.below hSw (Nat.lt_succ_self _)).five
    go_simp
    try (with_reducible rfl)
  try simp only [Act.put, List.setIfInBounds_toArray, List.set_cons_zero, List.set_cons_succ]
  refine wpAnyH_take (i := 6) (v := ?_) (by simp only [List.getElem?_toArray, List.getElem?_cons_succ, List.getElem?_cons_zero]; rfl) (by kernel_rfl) (by kernel_rfl) (by kernel_rfl) (by intro _ _ _ h; exact h) (Or.inl ⟨by rfl, ?_⟩) hHeld ?_
  rotate_left 1
  · intro wq hSw
    try dsimp only at hSw
    go_simp
    try (with_reducible rfl)
  try simp only [Act.put, List.setIfInBounds_toArray, List.set_cons_zero, List.set_cons_succ]
  refine wpAnyH_take (i := 7) (v := ?_) (by simp only [List.getElem?_toArray, List.getElem?_cons_succ, List.getElem?_cons_zero]; rfl) (by kernel_rfl) (by kernel_rfl) (by kernel_rfl) (by intro _ _ _ h; exact h) (Or.inl ⟨by rfl, ?_⟩) hHeld ?_
  rotate_left 1
  · intro wq hSw
    try dsimp only at hSw
    obtain ⟨x0, x1, x2, x3, x4, _⟩ := (V.below hSw (Nat.lt_succ_self _)).five
    go_simp
    try (with_reducible rfl)
  try simp only [Act.put, List.setIfInBounds_toArray, List.set_cons_zero, List.set_cons_succ]
  refine wpAnyH_take (i := 9) (v := ?_) (by simp only [List.getElem?_toArray, List.getElem?_cons_succ, List.getElem?_cons_zero]; rfl) (by kernel_rfl) (by kernel_rfl) (by kernel_rfl) (by intro _ _ _ h; exact h) (Or.inl ⟨by rfl, ?_⟩) hHeld ?_
  rotate_left 1
  · intro wq hSw
    try dsimp only at hSw
    go_simp
    try (with_reducible rfl)
  try simp only [Act.put, List.setIfInBounds_toArray, List.set_cons_zero, List.set_cons_succ]
  refine wpAnyH_take (i := 10) (v := ?_) (by simp only [List.getElem?_toArray, List.getElem?_cons_succ, List.getElem?_cons_zero]; rfl) (by kernel_rfl) (by kernel_rfl) (by kernel_rfl) (by intro _ _ _ h; exact h) (Or.inl ⟨by rfl, ?_⟩) hHeld ?_
  rotate_left 1
  · intro wq hSw
    try dsimp only at hSw
    obtain ⟨x0, x1, x2, x3, x4, _⟩ := (V.below hSw (Nat.lt_succ_self _)).five
    go_simp
    try (with_reducible rfl)
  try simp only [Act.put, List.setIfInBounds_toArray, List.set_cons_zero, List.set_cons_succ]
  refine wpAnyH_ready (rs := [8]) (by kernel_rfl) (by simp) ?_
  refine AllReadyH.cons (by simp only [List.getElem?_toArray, List.getElem?_cons_succ, List.getElem?_cons_zero]; rfl) (fun K hK => ?_) AllReadyH.nil
  obtain ⟨kb, hkb⟩ : ∃ k, wd.heap.size = k := ⟨_, rfl⟩
  go_simp
  try simp only [hkb]
  have HO := Own.empty wd 5
  have hkU : w.heap.size + 1 < kb := by have := U.lt; omega
  replace bd := bd.alloc (Nat.le_of_lt U.lt) (.cells #[] 5)
  replace U := U.alloc (.cells #[] 5)
  replace h := h.alloc (.cells #[] 5)
  rw [hkb] at HO
  clear hkb
  generalize wd.alloc (.cells #[] 5) = we at *
  refine hK.out _ _ (bd) (fun hHeld => ?_)
  clear hK K
  try dsimp only at hHeld
  try simp only [Act.put, List.setIfInBounds_toArray, List.set_cons_zero, List.set_cons_succ]
  refine wpAnyH_ready (rs := [11]) (by kernel_rfl) (by simp) ?_
  refine AllReadyH.cons (by simp only [List.getElem?_toArray, List.getElem?_cons_succ, List.getElem?_cons_zero]; rfl) (fun K hK => ?_) AllReadyH.nil
  obtain ⟨A6, c6, w6, hr, hO⟩ := run_app (P := Try.prog) HO 37 37 i0 (.int .u8 0) 1 Try.underlying37 hi hz0 hz1 hz2 rfl _ _ _ _ h (oneCell8 _) (by omega) (by omega)
  refine (if_pos (by rfl)).mpr (wp_app (.tmp 11) (.tmp 13) 37 rfl rfl rfl hr ?_)
  rw [List.nil_append, Nat.zero_add] at hO
  try simp only [Nat.zero_add]
  have N6 : Nw 5 w w6 A6 m c6 _ := own_base hO.own (by omega)
  have hf6 : ∀ ad, A6 = some ad → ad.block ≠ w.heap.size + 1 := fun ad e => by subst e; have := (World.ownsRow.lt hO.own ad.block rfl).1; omega
  replace bd := hO.belowAt bd (Nat.le_of_lt U.lt) (by omega)
  replace U := U.ownAt hO (by omega)
  clear HO hr hO
  refine hK.out _ _ (bd) (fun hHeld => ?_)
  clear hK K
  try dsimp only at hHeld
  try simp only [Act.put, List.setIfInBounds_toArray, List.set_cons_zero, List.set_cons_succ]
  refine wpAnyH_take (i := 12) (v := ?_) (by simp only [List.getElem?_toArray, List.getElem?_cons_succ, List.getElem?_cons_zero]; rfl) (by kernel_rfl) (by kernel_rfl) (by kernel_rfl) (by intro _ _ _ h; exact h) (Or.inl ⟨by rfl, ?_⟩) hHeld ?_
  rotate_left 1
  · intro wq hSw
    try dsimp only at hSw
    go_simp
    try (with_reducible rfl)
  try simp only [Act.put, List.setIfInBounds_toArray, List.set_cons_zero, List.set_cons_succ]
  refine wpAnyH_ready (rs := [13]) (by kernel_rfl) (by simp) ?_
  refine AllReadyH.cons (by simp only [List.getElem?_toArray, List.getElem?_cons_succ, List.getElem?_cons_zero]; rfl) (fun K hK => ?_) AllReadyH.nil
  obtain ⟨z0, z1, z2, z3, z4, y0, y1, y2, y3, y4⟩ := U.five
  go_simp
  have U2 := (((((U.set 0 (.int .i64 la)).set 1 (.int .i64 n)).set 2 (.int .i64 k)).set 3 (.int .i64 g)).set 4 (.slice A6 m c6))
  simp only [List.setIfInBounds_toArray, List.set_cons_zero, List.set_cons_succ] at U2
  have bd2 := (((((bd.setCell (p := ⟨w.heap.size + 1, 0, none⟩) (Nat.le_refl _) (.int .i64 la)).setCell (p := ⟨w.heap.size + 1, 1, none⟩) (Nat.le_refl _) (.int .i64 n)).setCell (p := ⟨w.heap.size + 1, 2, none⟩) (Nat.le_refl _) (.int .i64 k)).setCell (p := ⟨w.heap.size + 1, 3, none⟩) (Nat.le_refl _) (.int .i64 g)).setCell (p := ⟨w.heap.size + 1, 4, none⟩) (Nat.le_refl _) (.slice A6 m c6))
  have N7 := (((((N6.far (a := ⟨w.heap.size + 1, 0, none⟩) hf6 (.int .i64 la)).far (a := ⟨w.heap.size + 1, 1, none⟩) hf6 (.int .i64 n)).far (a := ⟨w.heap.size + 1, 2, none⟩) hf6 (.int .i64 k)).far (a := ⟨w.heap.size + 1, 3, none⟩) hf6 (.int .i64 g)).far (a := ⟨w.heap.size + 1, 4, none⟩) hf6 (.slice A6 m c6))
  clear z0 z1 z2 z3 z4 y0 y1 y2 y3 y4 U bd N6
  generalize (((((w6.setCell ⟨w.heap.size + 1, 0, none⟩ (.int .i64 la)).setCell ⟨w.heap.size + 1, 1, none⟩ (.int .i64 n)).setCell ⟨w.heap.size + 1, 2, none⟩ (.int .i64 k)).setCell ⟨w.heap.size + 1, 3, none⟩ (.int .i64 g)).setCell ⟨w.heap.size + 1, 4, none⟩ (.slice A6 m c6)) = w7 at *
  refine hK.out _ _ (bd2) (fun hHeld => ?_)
  clear hK K
  try dsimp only at hHeld
  try simp only [Act.put, List.setIfInBounds_toArray, List.set_cons_zero, List.set_cons_succ]
  refine wpAnyH_done (by kernel_rfl) ?_ _
  go_wp2
  try simp only [Exit.inBlock, Exit.then]
  exact ret_blk rfl rfl U2 Try.underlying41 (by kernel_rfl) (XPost.mk (x := ⟨la, n, k, g, l⟩) hl N7 (bb.trans (bd2.mono (Nat.le_succ _))))
end Go.Proofs.Ytagageidiebogaa
