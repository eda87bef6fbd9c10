/-
  Contract of the document's Join (written by gen_ref7g.py).
-/
import Derived.Test.YtagageidiebogaaExA
import Derived.Test.YtagageidiebogaaRef7d
import Derived.Deep.Cut
namespace Go.Proofs.Ytagageidiebogaa
open Go.RowKit Go.Wag
set_option linter.unusedVariables false
set_option maxRecDepth 20000
set_option maxHeartbeats 2000000 in
theorem fJoin_any (la1 n1 k1 g1 : Int) (A1 : Option Addr) (m1 c1 : Nat) (l1 : List UInt8) (la2 n2 k2 g2 : Int) (A2 : Option Addr) (m2 c2 : Nat) (l2 : List UInt8) (w : World) (h1 : Sl w A1 m1 c1 (l1.map v8)) (h2 : Sl w A2 m2 c2 (l2.map v8)) :
    Calls Try.prog 44 #[.agg #[.int .i64 la1, .int .i64 n1, .int .i64 k1, .int .i64 g1, .slice A1 m1 c1], .agg #[.int .i64 la2, .int .i64 n2, .int .i64 k2, .int .i64 g2, .slice A2 m2 c2]] w (EPost (.int .i64 (errOf (xjoin ⟨la1, n1, k1, g1, l1⟩ ⟨la2, n2, k2, g2, l2⟩) 70)) w ((xjoin ⟨la1, n1, k1, g1, l1⟩ ⟨la2, n2, k2, g2, l2⟩).getD x0)) := by
  have e1 : l1.length = m1 := h1.len8
  have e2 : l2.length = m2 := h2.len8
  have V1 := ((Blk.new w #[.int .i64 la1, .int .i64 n1, .int .i64 k1, .int .i64 g1, .slice A1 m1 c1] 41).alloc (.cells #[.int .i64 la2, .int .i64 n2, .int .i64 k2, .int .i64 g2, .slice A2 m2 c2] 41)).alloc (.cells #[.int .i64 0, .int .i64 0, .int .i64 0, .int .i64 0, .slice none 0 0] 41)
  have V2 := (Blk.new (w.alloc (.cells #[.int .i64 la1, .int .i64 n1, .int .i64 k1, .int .i64 g1, .slice A1 m1 c1] 41)) #[.int .i64 la2, .int .i64 n2, .int .i64 k2, .int .i64 g2, .slice A2 m2 c2] 41).alloc (.cells #[.int .i64 0, .int .i64 0, .int .i64 0, .int .i64 0, .slice none 0 0] 41)
  have U := Blk.new ((w.alloc (.cells #[.int .i64 la1, .int .i64 n1, .int .i64 k1, .int .i64 g1, .slice A1 m1 c1] 41)).alloc (.cells #[.int .i64 la2, .int .i64 n2, .int .i64 k2, .int .i64 g2, .slice A2 m2 c2] 41)) #[.int .i64 0, .int .i64 0, .int .i64 0, .int .i64 0, .slice none 0 0] 41
  have bb := (((Below.refl w.heap.size w).alloc (Nat.le_refl _) (.cells #[.int .i64 la1, .int .i64 n1, .int .i64 k1, .int .i64 g1, .slice A1 m1 c1] 41)).alloc (by simp) (.cells #[.int .i64 la2, .int .i64 n2, .int .i64 k2, .int .i64 g2, .slice A2 m2 c2] 41)).alloc (by simp only [World.size_alloc]; omega) (.cells #[.int .i64 0, .int .i64 0, .int .i64 0, .int .i64 0, .slice none 0 0] 41)
  simp only [World.size_alloc] at U V2
  have hj : xjF la1 n1 k1 g1 m1 la2 n2 k2 g2 m2 = xjoins ⟨la1, n1, k1, g1, l1⟩ ⟨la2, n2, k2, g2, l2⟩ := by rw [← xjF_eq]; simp only [e1, e2]
  cases r : xjoins ⟨la1, n1, k1, g1, l1⟩ ⟨la2, n2, k2, g2, l2⟩
  · rw [xjoin_no r]
    rw [r] at hj
    go_enter Try.func44, Try.ntmps44
    obtain ⟨p0, p1, p2, p3, p4, _⟩ := V1.five
    obtain ⟨q0, q1, q2, q3, q4, _⟩ := V2.five
    go_wp2_with fail
    refine (fJoins_any la1 n1 k1 g1 A1 m1 c1 la2 n2 k2 g2 A2 m2 c2 _).mono ?_
    rintro e w1 ⟨rfl, b1⟩
    rw [hj]
    replace V1 := V1.under b1
    replace V2 := V2.under b1
    replace U := U.under b1
    replace bb := bb.trans (b1.mono bb.size)
    clear p0 p1 p2 p3 p4 q0 q1 q2 q3 q4 b1
    obtain ⟨z0, z1, z2, z3, z4, y0, y1, y2, y3, y4⟩ := U.five
    go_wp2
    try simp only [Exit.inBlock, Exit.then]
    exact ret_blk2 rfl rfl (((((U.set 0 (_)).set 1 (_)).set 2 (_)).set 3 (_)).set 4 (_)) Try.underlying41 (by kernel_rfl) rfl (EPost.none _ (((((bb.setCell (p := ⟨w.heap.size + 1 + 1, 0, none⟩) (Nat.le_trans (Nat.le_succ _) (Nat.le_succ _)) (_)).setCell (p := ⟨w.heap.size + 1 + 1, 1, none⟩) (Nat.le_trans (Nat.le_succ _) (Nat.le_succ _)) (_)).setCell (p := ⟨w.heap.size + 1 + 1, 2, none⟩) (Nat.le_trans (Nat.le_succ _) (Nat.le_succ _)) (_)).setCell (p := ⟨w.heap.size + 1 + 1, 3, none⟩) (Nat.le_trans (Nat.le_succ _) (Nat.le_succ _)) (_)).setCell (p := ⟨w.heap.size + 1 + 1, 4, none⟩) (Nat.le_trans (Nat.le_succ _) (Nat.le_succ _)) (_)))
  rw [xjoin_yes r]
  rw [r] at hj
  have hx := xjoins_all r
  have y1 := Xp.all hx.1
  have y2 := Xp.all hx.2.1
  have z1 := Xp.len_le hx.1
  have z2 := Xp.len_le hx.2.1
  simp only at y1 y2 z1 z2
  have s1 : wrap64 (n1 + n2) = n1 + n2 := by unfold wrap64; omega
  clear y1 y2 hx
  obtain ⟨i0, hi, hz0, hz1, hz2⟩ := info_parts i5
  go_enter Try.func44, Try.ntmps44
  obtain ⟨p0, p1, p2, p3, p4, _⟩ := V1.five
  obtain ⟨q0, q1, q2, q3, q4, _⟩ := V2.five
  go_wp2_with fail
  refine (fJoins_any la1 n1 k1 g1 A1 m1 c1 la2 n2 k2 g2 A2 m2 c2 _).mono ?_
  rintro e w1 ⟨rfl, b1⟩
  rw [hj]
  replace V1 := V1.under b1
  replace V2 := V2.under b1
  replace U := U.under b1
  replace bb := bb.trans (b1.mono bb.size)
  clear p0 p1 p2 p3 p4 q0 q1 q2 q3 q4 b1
  obtain ⟨p0, p1, p2, p3, p4, _⟩ := V1.five
  go_wp2_with fail
  refine (fCopy_any la1 n1 k1 g1 A1 m1 c1 l1 w1 (h1.below bb) (by omega)).mono ?_
  rintro e w2 ⟨A6, c6, rfl, N6, b2⟩
  dsimp only at N6
  try dsimp only
  try rw [e1]
  rw [e1] at N6
  clear p0 p1 p2 p3 p4
  have hU1 := U.lt
  have hV1 := V1.lt
  have hV2 := V2.lt
  replace V1 := V1.under b2
  replace V2 := V2.under b2
  replace U := U.under b2
  replace bb := bb.trans (b2.mono bb.size)
  have hs12 := b2.size
  clear b2
  obtain ⟨kb, hkb⟩ : ∃ k, w2.heap.size = k := ⟨_, rfl⟩
  have D := Blk.new w2 #[.int .i64 la1, .int .i64 n1, .int .i64 k1, .int .i64 g1, .slice A6 m1 c6] 41
  rw [hkb] at D hs12
  have hlt := World.ownsRow.lt N6
  have hno : ∀ b, (Value.slice A6 m1 c6).ownBlock = some b → b ≠ kb := fun b hb => by have := (hlt b hb).2; omega
  clear hlt
  replace V1 := V1.alloc (.cells #[.int .i64 la1, .int .i64 n1, .int .i64 k1, .int .i64 g1, .slice A6 m1 c6] 41)
  replace V2 := V2.alloc (.cells #[.int .i64 la1, .int .i64 n1, .int .i64 k1, .int .i64 g1, .slice A6 m1 c6] 41)
  replace U := U.alloc (.cells #[.int .i64 la1, .int .i64 n1, .int .i64 k1, .int .i64 g1, .slice A6 m1 c6] 41)
  replace bb := bb.alloc bb.size (.cells #[.int .i64 la1, .int .i64 n1, .int .i64 k1, .int .i64 g1, .slice A6 m1 c6] 41)
  replace N6 : World.ownsRow _ _ _ _ _ _ _ := World.ownsRow.alloc N6 (.cells #[.int .i64 la1, .int .i64 n1, .int .i64 k1, .int .i64 g1, .slice A6 m1 c6] 41)
  go_upto_region 5 with (fail)
  try simp only [hkb]
  clear hkb
  generalize w2.alloc (.cells #[.int .i64 la1, .int .i64 n1, .int .i64 k1, .int .i64 g1, .slice A6 m1 c6] 41) = w3 at *
  obtain ⟨p0, p1, p2, p3, p4, _⟩ := V1.five
  obtain ⟨q0, q1, q2, q3, q4, _⟩ := V2.five
  obtain ⟨d0, d1, d2, d3, d4, f0, f1, f2, f3, f4⟩ := D.five
  have nV1 : w.heap.size ≠ kb := by omega
  have nV2 : w.heap.size + 1 ≠ kb := by omega
  have nU : w.heap.size + 1 + 1 ≠ kb := by omega
  have nk : w.heap.size ≤ kb := by omega
  go_upto_region 6 with (fail)
  replace D := D.set 1 (.int .i64 (n1 + n2))
  simp only [List.setIfInBounds_toArray, List.set_cons_zero, List.set_cons_succ] at D
  replace V1 := V1.far (a := ⟨kb, 1, none⟩) nV1 (.int .i64 (n1 + n2))
  replace V2 := V2.far (a := ⟨kb, 1, none⟩) nV2 (.int .i64 (n1 + n2))
  replace U := U.far (a := ⟨kb, 1, none⟩) nU (.int .i64 (n1 + n2))
  replace bb := bb.setCell (p := ⟨kb, 1, none⟩) nk (.int .i64 (n1 + n2))
  replace N6 := World.ownsRow.kept N6 (grown_set w3 ⟨kb, 1, none⟩ (.int .i64 (n1 + n2))) (by
    cases hv : Value.ownBlock (.slice A6 m1 c6) with
    | none => exact .inl rfl
    | some x => exact .inr (fun e => hno x hv (Option.some.inj e)))
  generalize w3.setCell ⟨kb, 1, none⟩ (.int .i64 (n1 + n2)) = w4 at *
  clear p0 p1 p2 p3 p4 q0 q1 q2 q3 q4 d0 d1 d2 d3 d4 f0 f1 f2 f3 f4
  have HO := Own.start N6 (by have := U.lt; have := D.lt; omega)
  have hs2 := h2.below bb
  obtain ⟨q0, q1, q2, q3, q4, _⟩ := V2.five
  obtain ⟨d0, d1, d2, d3, d4, _⟩ := D.five
  go_upto_region 7 with (at_builtin
                         refine wpList_app rfl (.tmp 23) (.tmp 25) 37 rfl rfl HO i0 (.int .u8 0) 1 Try.underlying37 hi hz0 hz1 hz2 rfl _ _ _ _ rfl hs2 (oneCell8 _) (by omega) (by omega) ?_
                         intro A7 c7 w5 hw5
                         have D5 := D.own hw5 hno
                         obtain ⟨x0', x1', x2', x3', x4', f0, f1, f2, f3, f4⟩ := D5.five)
  have hlt := World.ownsRow.lt N6
  have U5 := U.own hw5 (fun b hb => by have := (hlt b hb).1; omega)
  have b5 := hw5.below bb bb.size (fun b hb => by have := (hlt b hb).1; omega)
  have hlt7 := World.ownsRow.lt hw5.own
  have hDk := D.lt
  have h7k : ∀ ad, A7 = some ad → ad.block ≠ kb := fun ad e => by
    rcases hw5.lies with hl | hl
    · exact hno ad.block (by rw [← hl, e]; rfl)
    · have := hl ad.block (by rw [e]; rfl)
      omega
  have h7U : ∀ ad, A7 = some ad → ad.block ≠ w.heap.size + 1 + 1 := fun ad e => by have := (hlt7 ad.block (by rw [e]; rfl)).1; omega
  have N7 : Nw 5 w w5 A7 (m1 + m2) c7 _ := own_base hw5.own (by omega)
  replace D5 := D5.set 4 (.slice A7 (m1 + m2) c7)
  simp only [List.setIfInBounds_toArray, List.set_cons_zero, List.set_cons_succ] at D5
  replace U5 := U5.far (a := ⟨kb, 4, none⟩) nU (.slice A7 (m1 + m2) c7)
  replace N7 := N7.far (a := ⟨kb, 4, none⟩) h7k (.slice A7 (m1 + m2) c7)
  replace b5 := b5.setCell (p := ⟨kb, 4, none⟩) nk (.slice A7 (m1 + m2) c7)
  generalize w5.setCell ⟨kb, 4, none⟩ (.slice A7 (m1 + m2) c7) = w6 at *
  clear q0 q1 q2 q3 q4 d0 d1 d2 d3 d4 f0 f1 f2 f3 f4 x0' x1' x2' x3' x4' hw5 hlt hlt7 HO hs2 U V1 V2 D bb N6
  obtain ⟨d0, d1, d2, d3, d4, _⟩ := D5.five
  obtain ⟨z0, z1', z2', z3, z4, y0, y1, y2, y3, y4⟩ := U5.five
  go_wp2
  try simp only [Exit.inBlock, Exit.then]
  rw [← List.map_append] at N7
  exact ret_blk2 rfl rfl (((((U5.set 0 (_)).set 1 (_)).set 2 (_)).set 3 (_)).set 4 (_)) Try.underlying41 (by kernel_rfl) rfl (EPost.some (x := xboth ⟨la1, n1, k1, g1, l1⟩ ⟨la2, n2, k2, g2, l2⟩) rfl rfl rfl rfl (by have := N7.1; simpa [xboth] using this) (((((N7.far (a := ⟨w.heap.size + 1 + 1, 0, none⟩) (h7U) (_)).far (a := ⟨w.heap.size + 1 + 1, 1, none⟩) (h7U) (_)).far (a := ⟨w.heap.size + 1 + 1, 2, none⟩) (h7U) (_)).far (a := ⟨w.heap.size + 1 + 1, 3, none⟩) (h7U) (_)).far (a := ⟨w.heap.size + 1 + 1, 4, none⟩) (h7U) (_)) (((((b5.setCell (p := ⟨w.heap.size + 1 + 1, 0, none⟩) (Nat.le_trans (Nat.le_succ _) (Nat.le_succ _)) (_)).setCell (p := ⟨w.heap.size + 1 + 1, 1, none⟩) (Nat.le_trans (Nat.le_succ _) (Nat.le_succ _)) (_)).setCell (p := ⟨w.heap.size + 1 + 1, 2, none⟩) (Nat.le_trans (Nat.le_succ _) (Nat.le_succ _)) (_)).setCell (p := ⟨w.heap.size + 1 + 1, 3, none⟩) (Nat.le_trans (Nat.le_succ _) (Nat.le_succ _)) (_)).setCell (p := ⟨w.heap.size + 1 + 1, 4, none⟩) (Nat.le_trans (Nat.le_succ _) (Nat.le_succ _)) (_)))
end Go.Proofs.Ytagageidiebogaa
