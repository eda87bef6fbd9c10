/-
  The contract of package dev's Do (written by gen_dev8.py).
-/
import Derived.Test.YtnjekhnheihooaaDev7
namespace Go.Proofs.Ytnjekhnheihooaa
open Go.RowKit Go.Wag
set_option linter.unusedVariables false

/-- A device behind a command. -/
def DoPost (w : World) (size lf dn : Int) (dw : Bool) (zs : List Zp) (kd N : Int) (b : List UInt8) : Ending → World → Prop :=
  DevErr w size (ruLf size lf dw zs) (ruDn size lf dn dw zs) (ruDw size lf dw zs) (ruZs size lf dw zs kd N b) (ruEr size lf dw zs kd N b)

set_option maxRecDepth 20000 in
set_option maxHeartbeats 1000000 in
theorem dDo_any {F : Nat → Prop} (size lf dn : Int) (dw : Bool) (A : Option Addr) (n c : Nat) (zs : List Zp) (kd N : Int) (Ad : Option Addr) (nd cd : Nat) (b : List UInt8) (w : World) (h : Zs F w A n c zs) (hsm : Sm zs) (hs : Sl w Ad nd cd (b.map v8)) (hnd : nd ≤ 10000) (hlf : lf < 9223372036854775808) :
    Calls Try.prog 24 #[.agg #[.int .i64 size, .slice A n c, .int .i64 lf, .bool dw, .int .i64 dn], .agg #[.int .i64 kd, .int .i64 N, .slice Ad nd cd]] w (DoPost w size lf dn dw zs kd N b) := by
  have B0 := ((Blk.new w #[.int .i64 size, .slice A n c, .int .i64 lf, .bool dw, .int .i64 dn] 25).alloc (.cells #[.int .i64 kd, .int .i64 N, .slice Ad nd cd] 42)).alloc (.cells #[.int .i64 0, .slice none 0 0, .int .i64 0, .bool false, .int .i64 0] 25)
  have B1 := (Blk.new (w.alloc (.cells #[.int .i64 size, .slice A n c, .int .i64 lf, .bool dw, .int .i64 dn] 25)) #[.int .i64 kd, .int .i64 N, .slice Ad nd cd] 42).alloc (.cells #[.int .i64 0, .slice none 0 0, .int .i64 0, .bool false, .int .i64 0] 25)
  have B2 := Blk.new ((w.alloc (.cells #[.int .i64 size, .slice A n c, .int .i64 lf, .bool dw, .int .i64 dn] 25)).alloc (.cells #[.int .i64 kd, .int .i64 N, .slice Ad nd cd] 42)) #[.int .i64 0, .slice none 0 0, .int .i64 0, .bool false, .int .i64 0] 25
  have b0 := (((Below.refl w.heap.size w).alloc (Nat.le_refl _) (.cells #[.int .i64 size, .slice A n c, .int .i64 lf, .bool dw, .int .i64 dn] 25)).alloc (by simp) (.cells #[.int .i64 kd, .int .i64 N, .slice Ad nd cd] 42)).alloc (by simp; omega) (.cells #[.int .i64 0, .slice none 0 0, .int .i64 0, .bool false, .int .i64 0] 25)
  have hs0 : (((w.alloc (.cells #[.int .i64 size, .slice A n c, .int .i64 lf, .bool dw, .int .i64 dn] 25)).alloc (.cells #[.int .i64 kd, .int .i64 N, .slice Ad nd cd] 42)).alloc (.cells #[.int .i64 0, .slice none 0 0, .int .i64 0, .bool false, .int .i64 0] 25)).heap.size = w.heap.size + 3 := by simp
  simp only [World.size_alloc] at B1 B2
  have hAd : 0 < nd → ∀ ad, Ad = some ad → ad.block < w.heap.size := fun hn ad e => by
    obtain ⟨ad', e', hb, _⟩ := hs.cells hn
    cases e.symm.trans e'
    exact hb
  replace h := h.below b0
  replace hs := hs.below b0
  go_enter Try.func24, Try.ntmps24
  go_wp2_with fail
  generalize (((w.alloc (.cells #[.int .i64 size, .slice A n c, .int .i64 lf, .bool dw, .int .i64 dn] 25)).alloc (.cells #[.int .i64 kd, .int .i64 N, .slice Ad nd cd] 42)).alloc (.cells #[.int .i64 0, .slice none 0 0, .int .i64 0, .bool false, .int .i64 0] 25)) = w0 at *
  refine wp_region_held_drew (S := fun w' => Below w0.heap.size w0 w') (by kernel_rfl) (Below.refl _ _).drew (fun hHeld => ?_)
  try dsimp only at hHeld
  have bd : Below w0.heap.size w0 w0.drew := (Below.refl w0.heap.size w0).drew
  generalize w0.drew = wd at *
  try simp only [Act.put, List.setIfInBounds_toArray, List.set_cons_zero, List.set_cons_succ]
  refine wpAnyH_take (i := 0) (v := ?_) (by simp only [List.getElem?_toArray, List.getElem?_cons_zero]; rfl) (by kernel_rfl) (by kernel_rfl) (by kernel_rfl) (by intro _ _ _ h; exact h) (Or.inl ⟨by rfl, ?_⟩) hHeld ?_
  rotate_left 1
  · intro wq hSw
    try dsimp only at hSw
    obtain ⟨x0, x1, x2, x3, x4, _⟩ := (B0.under hSw).five
    go_simp
    try (with_reducible rfl)
  try simp only [Act.put, List.setIfInBounds_toArray, List.set_cons_zero, List.set_cons_succ]
  refine wpAnyH_take (i := 2) (v := ?_) (by simp only [List.getElem?_toArray, List.getElem?_cons_succ, List.getElem?_cons_zero]; rfl) (by kernel_rfl) (by kernel_rfl) (by kernel_rfl) (by intro _ _ _ h; exact h) (Or.inl ⟨by rfl, ?_⟩) hHeld ?_
  rotate_left 1
  · intro wq hSw
    try dsimp only at hSw
    obtain ⟨x0, x1, x2, _⟩ := (B1.under hSw).three
    go_simp
    try (with_reducible rfl)
  try simp only [Act.put, List.setIfInBounds_toArray, List.set_cons_zero, List.set_cons_succ]
  refine wpAnyH_ready (rs := [1]) (by kernel_rfl) (by simp) ?_
  refine AllReadyH.cons (by simp only [List.getElem?_toArray, List.getElem?_cons_succ, List.getElem?_cons_zero]; rfl) (fun K hK => ?_) AllReadyH.nil
  have hC := dcopied_any size lf dn dw A n c zs wd (h.below bd) hsm
  go_simp
  refine hC.mono ?_
  clear hC
  rintro e w4 ⟨g, rfl, Z4, b4⟩
  go_wp2_with fail
  refine hK.out _ _ (bd.trans (b4.mono bd.size)) (fun hHeld => ?_)
  clear hK K
  try dsimp only at hHeld
  try simp only [Act.put, List.setIfInBounds_toArray, List.set_cons_zero, List.set_cons_succ]
  refine wpAnyH_take (i := 3) (v := ?_) (by simp only [List.getElem?_toArray, List.getElem?_cons_succ, List.getElem?_cons_zero]; rfl) (by kernel_rfl) (by kernel_rfl) (by kernel_rfl) (by intro _ _ _ h; exact h) (Or.inl ⟨by rfl, ?_⟩) hHeld ?_
  rotate_left 1
  · intro wq hSw
    try dsimp only at hSw
    go_simp
    try (with_reducible rfl)
  try simp only [Act.put, List.setIfInBounds_toArray, List.set_cons_zero, List.set_cons_succ]
  refine wpAnyH_ready (rs := [4]) (by kernel_rfl) (by simp) ?_
  refine AllReadyH.cons (by simp only [List.getElem?_toArray, List.getElem?_cons_succ, List.getElem?_cons_zero]; rfl) (fun K hK => ?_) AllReadyH.nil
  obtain ⟨kw, hkw⟩ : ∃ k, w4.heap.size = k := ⟨_, rfl⟩
  have B4 := Blk.new w4 #[.int .i64 size, .slice (some ⟨g, 0, none⟩) zs.length zs.length, .int .i64 lf, .bool dw, .int .i64 dn, .int .i64 kd, .int .i64 N, .slice Ad nd cd] 63
  rw [hkw] at B4
  go_simp
  try simp only [hkw]
  refine hK.out _ _ ((bd.trans (b4.mono bd.size)).alloc (Nat.le_trans bd.size b4.size) _) (fun hHeld => ?_)
  clear hK K
  try dsimp only at hHeld
  try simp only [Act.put, List.setIfInBounds_toArray, List.set_cons_zero, List.set_cons_succ]
  refine wpAnyH_take (i := 5) (v := ?_) (by simp only [List.getElem?_toArray, List.getElem?_cons_succ, List.getElem?_cons_zero]; rfl) (by kernel_rfl) (by kernel_rfl) (by kernel_rfl) (by intro _ _ _ h; exact h) (Or.inl ⟨by rfl, ?_⟩) hHeld ?_
  rotate_left 1
  · intro wq hSw
    try dsimp only at hSw
    go_simp
    try (with_reducible rfl)
  try simp only [Act.put, List.setIfInBounds_toArray, List.set_cons_zero, List.set_cons_succ]
  refine wpAnyH_done (by kernel_rfl) ?_ _
  have hz4 := b4.size
  have hzd := bd.size
  have bA := bd.trans (b4.mono bd.size)
  have b5 : Below (w.heap.size + 3) w0 w4 := bA.mono (by omega)
  have HK : Wk (w.heap.size + 3) kw g (w4.alloc (.cells #[.int .i64 size, .slice (some ⟨g, 0, none⟩) zs.length zs.length, .int .i64 lf, .bool dw, .int .i64 dn, .int .i64 kd, .int .i64 N, .slice Ad nd cd] 63)) size lf dn dw zs kd N Ad nd cd b :=
    ⟨B4, (Z4.toZf (fun b hb hd => ⟨by omega, by omega⟩)).alloc _, (hs.below bA).alloc _, fun hn ad e => by have := hAd hn ad e; omega, by omega⟩
  have b6 : Below (w.heap.size + 3) w0 (w4.alloc (.cells #[.int .i64 size, .slice (some ⟨g, 0, none⟩) zs.length zs.length, .int .i64 lf, .bool dw, .int .i64 dn, .int .i64 kd, .int .i64 N, .slice Ad nd cd] 63)) := b5.alloc (by omega) _
  have b7 : Below w.heap.size w (w4.alloc (.cells #[.int .i64 size, .slice (some ⟨g, 0, none⟩) zs.length zs.length, .int .i64 lf, .bool dw, .int .i64 dn, .int .i64 kd, .int .i64 N, .slice Ad nd cd] 63)) := (b0.trans (bA.mono (by omega))).alloc (by omega) _
  clear hHeld b4 Z4 B4 b5 bA
  generalize w4.alloc (.cells #[.int .i64 size, .slice (some ⟨g, 0, none⟩) zs.length zs.length, .int .i64 lf, .bool dw, .int .i64 dn, .int .i64 kd, .int .i64 N, .slice Ad nd cd] 63) = w5 at *
  go_wp2_with fail
  refine (drun_any w5 HK hsm hnd hlf).mono ?_
  rintro e w6 ⟨rfl, ⟨g6, h6⟩, b8⟩
  have B6 := B2.below (b6.trans b8) (by omega)
  have b9 := b7.trans (b8.mono (by omega))
  have hkk := h6.at_
  obtain ⟨p0, p1, p2, p3, p4, p5, p6, p7, _⟩ := h6.blk.eight
  obtain ⟨r0, r1, r2, r3, r4, g0, g1, g2, g3, g4⟩ := B6.five
  have hz6 : Zo (w.heap.size + 3) 46 w6 g6 (ruZs size lf dw zs kd N b) := h6.zf.toZo (fun b _ hb => hb.1)
  go_wp2
  try simp only [Exit.inBlock, Exit.then]
  unfold DoPost
  exact ret_dev2 rfl rfl rfl B6 hz6 rfl (by omega) (by omega) b9
end Go.Proofs.Ytnjekhnheihooaa
