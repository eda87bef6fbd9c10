/-
  Contract of Join (written by gen_ext5.py).
-/
import Derived.Test.YtepaojegcaapfaaExt4
namespace Go.Proofs.Ytepaojegcaapfaa
open Go.RowKit Go.Wag
set_option linter.unusedVariables false
set_option maxRecDepth 20000
theorem xjoin_no {a b : Xp} (h : xjoins a b = false) : xjoin a b = none := by simp [xjoin, h]
theorem xjoin_yes {a b : Xp} (h : xjoins a b = true) : xjoin a b = some (xboth a b) := by simp [xjoin, h]
set_option maxHeartbeats 2000000 in
theorem eJoin_any (la1 n1 k1 g1 : Int) (A1 : Option Addr) (m1 c1 : Nat) (l1 : List UInt8) (la2 n2 k2 g2 : Int) (A2 : Option Addr) (m2 c2 : Nat) (l2 : List UInt8) (w : World) (hla1 : la1 ≤ 9223372036854775807) (hla2 : la2 ≤ 9223372036854775807) (h1 : Sl w A1 m1 c1 (l1.map v8)) (h2 : Sl w A2 m2 c2 (l2.map v8)) :
    Calls Try.prog 27 #[.agg #[.int .i64 la1, .int .i64 n1, .int .i64 k1, .int .i64 g1, .slice A1 m1 c1], .agg #[.int .i64 la2, .int .i64 n2, .int .i64 k2, .int .i64 g2, .slice A2 m2 c2]] w (EPost (.int .i64 (errOf (xjoin ⟨la1, n1, k1, g1, l1⟩ ⟨la2, n2, k2, g2, l2⟩) 70)) w ((xjoin ⟨la1, n1, k1, g1, l1⟩ ⟨la2, n2, k2, g2, l2⟩).getD x0)) := by
  have e1 : l1.length = m1 := h1.len8
  have e2 : l2.length = m2 := h2.len8
  have V1 := ((Blk.new w #[.int .i64 la1, .int .i64 n1, .int .i64 k1, .int .i64 g1, .slice A1 m1 c1] 38).alloc (.cells #[.int .i64 la2, .int .i64 n2, .int .i64 k2, .int .i64 g2, .slice A2 m2 c2] 38)).alloc (.cells #[.int .i64 0, .int .i64 0, .int .i64 0, .int .i64 0, .slice none 0 0] 38)
  have V2 := (Blk.new (w.alloc (.cells #[.int .i64 la1, .int .i64 n1, .int .i64 k1, .int .i64 g1, .slice A1 m1 c1] 38)) #[.int .i64 la2, .int .i64 n2, .int .i64 k2, .int .i64 g2, .slice A2 m2 c2] 38).alloc (.cells #[.int .i64 0, .int .i64 0, .int .i64 0, .int .i64 0, .slice none 0 0] 38)
  have U := Blk.new ((w.alloc (.cells #[.int .i64 la1, .int .i64 n1, .int .i64 k1, .int .i64 g1, .slice A1 m1 c1] 38)).alloc (.cells #[.int .i64 la2, .int .i64 n2, .int .i64 k2, .int .i64 g2, .slice A2 m2 c2] 38)) #[.int .i64 0, .int .i64 0, .int .i64 0, .int .i64 0, .slice none 0 0] 38
  have bb := (((Below.refl w.heap.size w).alloc (Nat.le_refl _) (.cells #[.int .i64 la1, .int .i64 n1, .int .i64 k1, .int .i64 g1, .slice A1 m1 c1] 38)).alloc (by simp) (.cells #[.int .i64 la2, .int .i64 n2, .int .i64 k2, .int .i64 g2, .slice A2 m2 c2] 38)).alloc (by simp only [World.size_alloc]; omega) (.cells #[.int .i64 0, .int .i64 0, .int .i64 0, .int .i64 0, .slice none 0 0] 38)
  replace h1 := ((h1.alloc (.cells #[.int .i64 la1, .int .i64 n1, .int .i64 k1, .int .i64 g1, .slice A1 m1 c1] 38)).alloc (.cells #[.int .i64 la2, .int .i64 n2, .int .i64 k2, .int .i64 g2, .slice A2 m2 c2] 38)).alloc (.cells #[.int .i64 0, .int .i64 0, .int .i64 0, .int .i64 0, .slice none 0 0] 38)
  replace h2 := ((h2.alloc (.cells #[.int .i64 la1, .int .i64 n1, .int .i64 k1, .int .i64 g1, .slice A1 m1 c1] 38)).alloc (.cells #[.int .i64 la2, .int .i64 n2, .int .i64 k2, .int .i64 g2, .slice A2 m2 c2] 38)).alloc (.cells #[.int .i64 0, .int .i64 0, .int .i64 0, .int .i64 0, .slice none 0 0] 38)
  simp only [World.size_alloc] at U V2
  have hj : xjF la1 n1 k1 g1 m1 la2 n2 k2 g2 m2 = xjoins ⟨la1, n1, k1, g1, l1⟩ ⟨la2, n2, k2, g2, l2⟩ := by rw [← xjF_eq]; simp only [e1, e2]
  cases r : xjoins ⟨la1, n1, k1, g1, l1⟩ ⟨la2, n2, k2, g2, l2⟩
  · rw [xjoin_no r]
    rw [r] at hj
    go_enter Try.func27, Try.ntmps27
    obtain ⟨p0, p1, p2, p3, p4, _⟩ := V1.five
    obtain ⟨q0, q1, q2, q3, q4, _⟩ := V2.five
    go_wp2_with fail
    refine (eJoins_any la1 n1 k1 g1 A1 m1 c1 la2 n2 k2 g2 A2 m2 c2 _ hla1 hla2).mono ?_
    rintro e w1 ⟨rfl, b1⟩
    rw [hj]
    replace U := U.under b1
    replace bb := bb.trans (b1.mono bb.size)
    clear p0 p1 p2 p3 p4 q0 q1 q2 q3 q4
    obtain ⟨z0, z1, z2, z3, z4, y0, y1, y2, y3, y4⟩ := U.five
    go_wp2
    try simp only [Exit.inBlock, Exit.then]
    exact ret_blk2 rfl rfl (((((U.set 0 _).set 1 _).set 2 _).set 3 _).set 4 _) Try.underlying38 (by kernel_rfl) rfl (EPost.none _ (((((bb.setCell (p := ⟨w.heap.size + 1 + 1, 0, none⟩) (by simp; omega) _).setCell (p := ⟨w.heap.size + 1 + 1, 1, none⟩) (by simp; omega) _).setCell (p := ⟨w.heap.size + 1 + 1, 2, none⟩) (by simp; omega) _).setCell (p := ⟨w.heap.size + 1 + 1, 3, none⟩) (by simp; omega) _).setCell (p := ⟨w.heap.size + 1 + 1, 4, none⟩) (by simp; omega) _))
  rw [xjoin_yes r]
  rw [r] at hj
  have hx := xjoins_all r
  have y1 := Xp.all hx.1
  have y2 := Xp.all hx.2.1
  have z1 := Xp.len_le hx.1
  have z2 := Xp.len_le hx.2.1
  simp only at y1 y2 z1 z2
  have s1 : wrap64 (n1 + n2) = n1 + n2 := by unfold wrap64; omega
  have s2 : IntKind.i64.wrap (n1 + n2) = n1 + n2 := (IntWalk.i64_left _).trans s1
  clear y1 y2 hx
  go_enter Try.func27, Try.ntmps27
  obtain ⟨p0, p1, p2, p3, p4, _⟩ := V1.five
  obtain ⟨q0, q1, q2, q3, q4, _⟩ := V2.five
  go_wp2_with fail
  refine (eJoins_any la1 n1 k1 g1 A1 m1 c1 la2 n2 k2 g2 A2 m2 c2 _ hla1 hla2).mono ?_
  rintro e w1 ⟨rfl, b1⟩
  rw [hj]
  replace V1 := V1.under b1
  replace V2 := V2.under b1
  replace U := U.under b1
  replace h1 := h1.below b1
  replace h2 := h2.below b1
  replace bb := bb.trans (b1.mono bb.size)
  clear p0 p1 p2 p3 p4 q0 q1 q2 q3 q4 b1
  go_wp2_with fail
  refine wp_region_held_drew (S := fun w' => Below (w.heap.size + 1 + 1) w1 w') (by kernel_rfl) (Below.refl _ _).drew (fun hHeld => ?_)
  try dsimp only at hHeld
  have bd : Below (w.heap.size + 1 + 1) w1 w1.drew := (Below.refl (w.heap.size + 1 + 1) w1).drew
  replace h1 := h1.drew
  replace h2 := h2.drew
  replace U := U.drew
  generalize w1.drew = wd at *
  try simp only [Act.put, List.setIfInBounds_toArray, List.set_cons_zero, List.set_cons_succ]
  refine wpAnyH_take (i := 0) (v := ?_) (by simp only [List.getElem?_toArray, List.getElem?_cons_zero]; rfl) (by kernel_rfl) (by kernel_rfl) (by kernel_rfl) (by intro _ _ _ h; exact h) (Or.inl ⟨by rfl, ?_⟩) hHeld ?_
  rotate_left 1
  · intro wq hSw
    try dsimp only at hSw
    go_simp
    try (with_reducible rfl)
  try simp only [Act.put, List.setIfInBounds_toArray, List.set_cons_zero, List.set_cons_succ]
  refine wpAnyH_take (i := 1) (v := ?_) (by simp only [List.getElem?_toArray, List.getElem?_cons_succ, List.getElem?_cons_zero]; rfl) (by kernel_rfl) (by kernel_rfl) (by kernel_rfl) (by intro _ _ _ h; exact h) (Or.inl ⟨by rfl, ?_⟩) hHeld ?_
  rotate_left 1
  · intro wq hSw
    try dsimp only at hSw
    obtain ⟨x0, x1, x2, x3, x4, _⟩ := (V1.below hSw (by omega)).five
    go_simp
    try (with_reducible rfl)
  try simp only [Act.put, List.setIfInBounds_toArray, List.set_cons_zero, List.set_cons_succ]
  refine wpAnyH_take (i := 2) (v := ?_) (by simp only [List.getElem?_toArray, List.getElem?_cons_succ, List.getElem?_cons_zero]; rfl) (by kernel_rfl) (by kernel_rfl) (by kernel_rfl) (by intro _ _ _ h; exact h) (Or.inl ⟨by rfl, ?_⟩) hHeld ?_
  rotate_left 1
  · intro wq hSw
    try dsimp only at hSw
    go_simp
    try (with_reducible rfl)
  try simp only [Act.put, List.setIfInBounds_toArray, List.set_cons_zero, List.set_cons_succ]
  refine wpAnyH_take (i := 3) (v := ?_) (by simp only [List.getElem?_toArray, List.getElem?_cons_succ, List.getElem?_cons_zero]; rfl) (by kernel_rfl) (by kernel_rfl) (by kernel_rfl) (by intro _ _ _ h; exact h) (Or.inl ⟨by rfl, ?_⟩) hHeld ?_
  rotate_left 1
  · intro wq hSw
    try dsimp only at hSw
    obtain ⟨x0, x1, x2, x3, x4, _⟩ := (V1.below hSw (by omega)).five
    go_simp
    try (with_reducible rfl)
  try simp only [Act.put, List.setIfInBounds_toArray, List.set_cons_zero, List.set_cons_succ]
  refine wpAnyH_take (i := 4) (v := ?_) (by simp only [List.getElem?_toArray, List.getElem?_cons_succ, List.getElem?_cons_zero]; rfl) (by kernel_rfl) (by kernel_rfl) (by kernel_rfl) (by intro _ _ _ h; exact h) (Or.inl ⟨by rfl, ?_⟩) hHeld ?_
  rotate_left 1
  · intro wq hSw
    try dsimp only at hSw
    go_simp
    try (with_reducible rfl)
  try simp only [Act.put, List.setIfInBounds_toArray, List.set_cons_zero, List.set_cons_succ]
  refine wpAnyH_take (i := 5) (v := ?_) (by simp only [List.getElem?_toArray, List.getElem?_cons_succ, List.getElem?_cons_zero]; rfl) (by kernel_rfl) (by kernel_rfl) (by kernel_rfl) (by intro _ _ _ h; exact h) (Or.inl ⟨by rfl, ?_⟩) hHeld ?_
  rotate_left 1
  · intro wq hSw
    try dsimp only at hSw
    obtain ⟨x0, x1, x2, x3, x4, _⟩ := (V2.below hSw (by omega)).five
    go_simp
    try (with_reducible rfl)
  try simp only [Act.put, List.setIfInBounds_toArray, List.set_cons_zero, List.set_cons_succ]
  refine wpAnyH_take (i := 6) (v := ?_) (by simp only [List.getElem?_toArray, List.getElem?_cons_succ, List.getElem?_cons_zero]; rfl) (by kernel_rfl) (by kernel_rfl) (by kernel_rfl) (by intro _ _ _ h; exact h) (Or.inl ⟨by rfl, ?_⟩) hHeld ?_
  rotate_left 1
  · intro wq hSw
    try dsimp only at hSw
    go_simp
    try (with_reducible rfl)
  try simp only [Act.put, List.setIfInBounds_toArray, List.set_cons_zero, List.set_cons_succ]
  refine wpAnyH_take (i := 7) (v := ?_) (by simp only [List.getElem?_toArray, List.getElem?_cons_succ, List.getElem?_cons_zero]; rfl) (by kernel_rfl) (by kernel_rfl) (by kernel_rfl) (by intro _ _ _ h; exact h) (Or.inl ⟨by rfl, ?_⟩) hHeld ?_
  rotate_left 1
  · intro wq hSw
    try dsimp only at hSw
    go_simp
    try (with_reducible rfl)
  try simp only [Act.put, List.setIfInBounds_toArray, List.set_cons_zero, List.set_cons_succ]
  refine wpAnyH_take (i := 8) (v := ?_) (by simp only [List.getElem?_toArray, List.getElem?_cons_succ, List.getElem?_cons_zero]; rfl) (by kernel_rfl) (by kernel_rfl) (by kernel_rfl) (by intro _ _ _ h; exact h) (Or.inl ⟨by rfl, ?_⟩) hHeld ?_
  rotate_left 1
  · intro wq hSw
    try dsimp only at hSw
    obtain ⟨x0, x1, x2, x3, x4, _⟩ := (V1.below hSw (by omega)).five
    go_simp
    try (with_reducible rfl)
  try simp only [Act.put, List.setIfInBounds_toArray, List.set_cons_zero, List.set_cons_succ]
  refine wpAnyH_take (i := 9) (v := ?_) (by simp only [List.getElem?_toArray, List.getElem?_cons_succ, List.getElem?_cons_zero]; rfl) (by kernel_rfl) (by kernel_rfl) (by kernel_rfl) (by intro _ _ _ h; exact h) (Or.inl ⟨by rfl, ?_⟩) hHeld ?_
  rotate_left 1
  · intro wq hSw
    try dsimp only at hSw
    go_simp
    try (with_reducible rfl)
  try simp only [Act.put, List.setIfInBounds_toArray, List.set_cons_zero, List.set_cons_succ]
  refine wpAnyH_take (i := 10) (v := ?_) (by simp only [List.getElem?_toArray, List.getElem?_cons_succ, List.getElem?_cons_zero]; rfl) (by kernel_rfl) (by kernel_rfl) (by kernel_rfl) (by intro _ _ _ h; exact h) (Or.inl ⟨by rfl, ?_⟩) hHeld ?_
  rotate_left 1
  · intro wq hSw
    try dsimp only at hSw
    obtain ⟨x0, x1, x2, x3, x4, _⟩ := (V1.below hSw (by omega)).five
    go_simp
    try (with_reducible rfl)
  try simp only [Act.put, List.setIfInBounds_toArray, List.set_cons_zero, List.set_cons_succ]
  refine wpAnyH_take (i := 11) (v := ?_) (by simp only [List.getElem?_toArray, List.getElem?_cons_succ, List.getElem?_cons_zero]; rfl) (by kernel_rfl) (by kernel_rfl) (by kernel_rfl) (by intro _ _ _ h; exact h) (Or.inl ⟨by rfl, ?_⟩) hHeld ?_
  rotate_left 1
  · intro wq hSw
    try dsimp only at hSw
    go_simp
    try (with_reducible rfl)
  try simp only [Act.put, List.setIfInBounds_toArray, List.set_cons_zero, List.set_cons_succ]
  refine wpAnyH_take (i := 12) (v := ?_) (by simp only [List.getElem?_toArray, List.getElem?_cons_succ, List.getElem?_cons_zero]; rfl) (by kernel_rfl) (by kernel_rfl) (by kernel_rfl) (by intro _ _ _ h; exact h) (Or.inl ⟨by rfl, ?_⟩) hHeld ?_
  rotate_left 1
  · intro wq hSw
    try dsimp only at hSw
    obtain ⟨x0, x1, x2, x3, x4, _⟩ := (V1.below hSw (by omega)).five
    go_simp
    try (with_reducible rfl)
  try simp only [Act.put, List.setIfInBounds_toArray, List.set_cons_zero, List.set_cons_succ]
  refine wpAnyH_take (i := 13) (v := ?_) (by simp only [List.getElem?_toArray, List.getElem?_cons_succ, List.getElem?_cons_zero]; rfl) (by kernel_rfl) (by kernel_rfl) (by kernel_rfl) (by intro _ _ _ h; exact h) (Or.inl ⟨by rfl, ?_⟩) hHeld ?_
  rotate_left 1
  · intro wq hSw
    try dsimp only at hSw
    go_simp
    try (with_reducible rfl)
  try simp only [Act.put, List.setIfInBounds_toArray, List.set_cons_zero, List.set_cons_succ]
  refine wpAnyH_take (i := 14) (v := ?_) (by simp only [List.getElem?_toArray, List.getElem?_cons_succ, List.getElem?_cons_zero]; rfl) (by kernel_rfl) (by kernel_rfl) (by kernel_rfl) (by intro _ _ _ h; exact h) (Or.inl ⟨by rfl, ?_⟩) hHeld ?_
  rotate_left 1
  · intro wq hSw
    try dsimp only at hSw
    obtain ⟨x0, x1, x2, x3, x4, _⟩ := (V2.below hSw (by omega)).five
    go_simp
    try (with_reducible rfl)
  try simp only [Act.put, List.setIfInBounds_toArray, List.set_cons_zero, List.set_cons_succ]
  refine wpAnyH_ready (rs := [15]) (by kernel_rfl) (by simp) ?_
  refine AllReadyH.cons (by simp only [List.getElem?_toArray, List.getElem?_cons_succ, List.getElem?_cons_zero]; rfl) (fun K hK => ?_) AllReadyH.nil
  obtain ⟨kb, hkb⟩ : ∃ k, wd.heap.size = k := ⟨_, rfl⟩
  go_simp
  try simp only [hkb]
  have B := Blk.new wd #[.slice A1 m1 c1, .slice A2 m2 c2] 23
  rw [hkb] at B
  clear hkb
  replace bd := bd.alloc (Nat.le_of_lt U.lt) (.cells #[.slice A1 m1 c1, .slice A2 m2 c2] 23)
  replace U := U.alloc (.cells #[.slice A1 m1 c1, .slice A2 m2 c2] 23)
  replace h1 := h1.alloc (.cells #[.slice A1 m1 c1, .slice A2 m2 c2] 23)
  replace h2 := h2.alloc (.cells #[.slice A1 m1 c1, .slice A2 m2 c2] 23)
  generalize wd.alloc (.cells #[.slice A1 m1 c1, .slice A2 m2 c2] 23) = we at *
  refine hK.out _ _ (bd) (fun hHeld => ?_)
  clear hK K
  try dsimp only at hHeld
  try simp only [Act.put, List.setIfInBounds_toArray, List.set_cons_zero, List.set_cons_succ]
  refine wpAnyH_ready (rs := [16]) (by kernel_rfl) (by simp) ?_
  refine AllReadyH.cons (by simp only [List.getElem?_toArray, List.getElem?_cons_succ, List.getElem?_cons_zero]; rfl) (fun K hK => ?_) AllReadyH.nil
  go_simp
  refine (eConcat_any kb _ A1 m1 c1 l1 A2 m2 c2 l2 we B h1 h2 (by omega) (by omega)).mono ?_
  rintro e w6 ⟨A6, m6, c6, rfl, N6, b6⟩
  have hf6 : ∀ ad, A6 = some ad → ad.block ≠ w.heap.size + 1 + 1 := fun ad e => by have := N6.fr ad e; have := U.lt; omega
  replace N6 : Nw 5 w w6 A6 m6 c6 _ := Nw.mono (w1 := we) N6 (by have := U.lt; omega)
  replace bd := bd.trans (b6.mono (Nat.le_of_lt U.lt))
  replace U := U.under b6
  clear b6
  go_wp2_with fail
  refine hK.out _ _ (bd) (fun hHeld => ?_)
  clear hK K
  try dsimp only at hHeld
  try simp only [Act.put, List.setIfInBounds_toArray, List.set_cons_zero, List.set_cons_succ]
  refine wpAnyH_take (i := 17) (v := ?_) (by simp only [List.getElem?_toArray, List.getElem?_cons_succ, List.getElem?_cons_zero]; rfl) (by kernel_rfl) (by kernel_rfl) (by kernel_rfl) (by intro _ _ _ h; exact h) (Or.inl ⟨by rfl, ?_⟩) hHeld ?_
  rotate_left 1
  · intro wq hSw
    try dsimp only at hSw
    go_simp
    try (with_reducible rfl)
  try simp only [Act.put, List.setIfInBounds_toArray, List.set_cons_zero, List.set_cons_succ]
  refine wpAnyH_ready (rs := [18]) (by kernel_rfl) (by simp) ?_
  refine AllReadyH.cons (by simp only [List.getElem?_toArray, List.getElem?_cons_succ, List.getElem?_cons_zero]; rfl) (fun K hK => ?_) AllReadyH.nil
  obtain ⟨z0, z1, z2, z3, z4, y0, y1, y2, y3, y4⟩ := U.five
  go_simp
  have U2 := (((((U.set 0 (.int .i64 la1)).set 1 (.int .i64 (n1 + n2))).set 2 (.int .i64 k1)).set 3 (.int .i64 g1)).set 4 (.slice A6 m6 c6))
  simp only [List.setIfInBounds_toArray, List.set_cons_zero, List.set_cons_succ] at U2
  have bd2 := (((((bd.setCell (p := ⟨w.heap.size + 1 + 1, 0, none⟩) (Nat.le_refl _) (.int .i64 la1)).setCell (p := ⟨w.heap.size + 1 + 1, 1, none⟩) (Nat.le_refl _) (.int .i64 (n1 + n2))).setCell (p := ⟨w.heap.size + 1 + 1, 2, none⟩) (Nat.le_refl _) (.int .i64 k1)).setCell (p := ⟨w.heap.size + 1 + 1, 3, none⟩) (Nat.le_refl _) (.int .i64 g1)).setCell (p := ⟨w.heap.size + 1 + 1, 4, none⟩) (Nat.le_refl _) (.slice A6 m6 c6))
  have N7 := (((((N6.far (a := ⟨w.heap.size + 1 + 1, 0, none⟩) hf6 (.int .i64 la1)).far (a := ⟨w.heap.size + 1 + 1, 1, none⟩) hf6 (.int .i64 (n1 + n2))).far (a := ⟨w.heap.size + 1 + 1, 2, none⟩) hf6 (.int .i64 k1)).far (a := ⟨w.heap.size + 1 + 1, 3, none⟩) hf6 (.int .i64 g1)).far (a := ⟨w.heap.size + 1 + 1, 4, none⟩) hf6 (.slice A6 m6 c6))
  clear z0 z1 z2 z3 z4 y0 y1 y2 y3 y4 U bd N6
  generalize (((((w6.setCell ⟨w.heap.size + 1 + 1, 0, none⟩ (.int .i64 la1)).setCell ⟨w.heap.size + 1 + 1, 1, none⟩ (.int .i64 (n1 + n2))).setCell ⟨w.heap.size + 1 + 1, 2, none⟩ (.int .i64 k1)).setCell ⟨w.heap.size + 1 + 1, 3, none⟩ (.int .i64 g1)).setCell ⟨w.heap.size + 1 + 1, 4, none⟩ (.slice A6 m6 c6)) = w7 at *
  refine hK.out _ _ (bd2) (fun hHeld => ?_)
  clear hK K
  try dsimp only at hHeld
  try simp only [Act.put, List.setIfInBounds_toArray, List.set_cons_zero, List.set_cons_succ]
  refine wpAnyH_take (i := 19) (v := ?_) (by simp only [List.getElem?_toArray, List.getElem?_cons_succ, List.getElem?_cons_zero]; rfl) (by kernel_rfl) (by kernel_rfl) (by kernel_rfl) (by intro _ _ _ h; exact h) (Or.inl ⟨by rfl, ?_⟩) hHeld ?_
  rotate_left 1
  · intro wq hSw
    try dsimp only at hSw
    go_simp
    try (with_reducible rfl)
  try simp only [Act.put, List.setIfInBounds_toArray, List.set_cons_zero, List.set_cons_succ]
  refine wpAnyH_done (by kernel_rfl) ?_ _
  go_wp2
  try simp only [Exit.inBlock, Exit.then]
  exact ret_blk2 rfl rfl U2 Try.underlying38 (by kernel_rfl) rfl (EPost.some rfl rfl rfl rfl (by have := N7.1; simpa [xboth] using this) N7 (bb.trans (bd2.mono (by omega))))
end Go.Proofs.Ytepaojegcaapfaa
