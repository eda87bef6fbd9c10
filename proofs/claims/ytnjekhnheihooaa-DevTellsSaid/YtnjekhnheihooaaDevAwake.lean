/-
  The calls at every statement's head of stage 4 answer as the document says (written by gen_devawake.py).
-/
import Derived.Test.YtnjekhnheihooaaDev9
namespace Go.Proofs.Ytnjekhnheihooaa
open Go.RowKit Go.Wag
set_option linter.unusedVariables false

theorem slB4 (w : World) (l : List UInt8) (cells : Array Value) (hc : (l.map v8).toArray = cells) (hl : l.length ≤ 1000) : Sl (w.alloc (.cells cells 5)) (some ⟨w.heap.size, 0, none⟩) l.length l.length (l.map v8) := by
  subst hc
  exact sl8 w l hl
theorem slI4 (w : World) (l : List Int) (cells : Array Value) (hc : (l.map iv).toArray = cells) (hl : l.length ≤ 1000) : Sl (w.alloc (.cells cells 3)) (some ⟨w.heap.size, 0, none⟩) l.length l.length (l.map iv) := by
  subst hc
  exact sl_new_ints w l _ _ rfl hl
theorem sm_two (a b : Zp) (ha : a.l.length ≤ 1048576) (hb : b.l.length ≤ 1048576) : Sm [a, b] := ⟨by simp, fun z hz => by
  rcases List.mem_cons.1 hz with rfl | hz
  · exact ha
  · rcases List.mem_cons.1 hz with rfl | hz
    · exact hb
    · cases hz⟩
theorem sm_a : Sm [zero4, zero4] := sm_two _ _ (by decide) (by decide)
theorem sm_b : Sm [zero4, ⟨1, 0, 0, [5, 6]⟩] := sm_two _ _ (by decide) (by decide)
theorem sm_c : Sm [zero4, ⟨2, 0, 1, [5]⟩] := sm_two _ _ (by decide) (by decide)
theorem fits_a : fits [0, 1] := fun x hx => by
  rcases List.mem_cons.1 hx with rfl | hx
  · decide
  · rcases List.mem_cons.1 hx with rfl | hx
    · decide
    · cases hx

set_option maxHeartbeats 1600000 in
theorem awake4_any (w : World) : Calls Try.prog 10 #[] w fun e w' => e = .returned (.bool true) ∧ Below w.heap.size w w' := by
  have bb := Below.refl w.heap.size w
  go_enter Try.func10, Try.ntmps10
  go_wp2_with fail
  have hC := dNew_at 2 8 [zero4, zero4] 2 w rfl rfl rfl (by decide)
  refine hC.mono ?_
  clear hC
  rintro e w1 ⟨A1, rfl, z1, b1⟩
  replace bb := bb.trans (b1.mono bb.size)
  replace z1 := z1.alloc (.cells #[.int .i64 8, .slice A1 2 2, .int .i64 (-1), .bool false, .int .i64 0] 25)
  replace bb := bb.alloc bb.size (.cells #[.int .i64 8, .slice A1 2 2, .int .i64 (-1), .bool false, .int .i64 0] 25)
  have Bd := Blk.new w1 #[.int .i64 8, .slice A1 2 2, .int .i64 (-1), .bool false, .int .i64 0] 25
  replace z1 := z1.alloc (.cells #[.int .u8 5, .int .u8 6] 5)
  replace Bd := Bd.alloc (.cells #[.int .u8 5, .int .u8 6] 5)
  replace bb := bb.alloc bb.size (.cells #[.int .u8 5, .int .u8 6] 5)
  have l1 := slB4 (w1.alloc (.cells #[.int .i64 8, .slice A1 2 2, .int .i64 (-1), .bool false, .int .i64 0] 25)) [5, 6] #[.int .u8 5, .int .u8 6] rfl (by decide)
  simp only [World.size_alloc] at l1
  go_wp2_with fail
  generalize ((w1.alloc (.cells #[.int .i64 8, .slice A1 2 2, .int .i64 (-1), .bool false, .int .i64 0] 25)).alloc (.cells #[.int .u8 5, .int .u8 6] 5)) = W1 at *
  have hC := dDo_at 8 (-1) 0 false A1 2 2 [zero4, zero4] 1 1 _ 2 2 [5, 6] (-1) 1 false [zero4, ⟨1, 0, 0, [5, 6]⟩] 0 W1 z1 sm_a l1 (by decide) (by decide) (by kernel_rfl) (by kernel_rfl) (by kernel_rfl) (by kernel_rfl) (by kernel_rfl)
  refine hC.mono ?_
  clear hC
  rintro e w2 ⟨A2, rfl, z2, b2⟩
  replace z1 := z1.below b2
  replace Bd := Bd.under b2
  replace l1 := l1.below b2
  replace bb := bb.trans (b2.mono bb.size)
  replace z1 := z1.alloc (.cells #[.int .i64 8, .slice A2 2 2, .int .i64 (-1), .bool false, .int .i64 1] 25)
  replace Bd := Bd.alloc (.cells #[.int .i64 8, .slice A2 2 2, .int .i64 (-1), .bool false, .int .i64 1] 25)
  replace l1 := l1.alloc (.cells #[.int .i64 8, .slice A2 2 2, .int .i64 (-1), .bool false, .int .i64 1] 25)
  replace z2 := z2.alloc (.cells #[.int .i64 8, .slice A2 2 2, .int .i64 (-1), .bool false, .int .i64 1] 25)
  replace bb := bb.alloc bb.size (.cells #[.int .i64 8, .slice A2 2 2, .int .i64 (-1), .bool false, .int .i64 1] 25)
  have Ba := Blk.new w2 #[.int .i64 8, .slice A2 2 2, .int .i64 (-1), .bool false, .int .i64 1] 25
  replace z1 := z1.alloc (.cells #[.int .i64 0, .int .i64 1] 3)
  replace Bd := Bd.alloc (.cells #[.int .i64 0, .int .i64 1] 3)
  replace l1 := l1.alloc (.cells #[.int .i64 0, .int .i64 1] 3)
  replace z2 := z2.alloc (.cells #[.int .i64 0, .int .i64 1] 3)
  replace Ba := Ba.alloc (.cells #[.int .i64 0, .int .i64 1] 3)
  replace bb := bb.alloc bb.size (.cells #[.int .i64 0, .int .i64 1] 3)
  have l2 := slI4 (w2.alloc (.cells #[.int .i64 8, .slice A2 2 2, .int .i64 (-1), .bool false, .int .i64 1] 25)) [0, 1] #[.int .i64 0, .int .i64 1] rfl (by decide)
  simp only [World.size_alloc] at l2
  go_wp2_with fail
  generalize ((w2.alloc (.cells #[.int .i64 8, .slice A2 2 2, .int .i64 (-1), .bool false, .int .i64 1] 25)).alloc (.cells #[.int .i64 0, .int .i64 1] 3)) = W2 at *
  have hC := dCrash_at 8 (-1) 1 false A2 2 2 [zero4, ⟨1, 0, 0, [5, 6]⟩] _ 2 2 [0, 1] (-1) false [zero4, ⟨2, 0, 1, [5]⟩] W2 z2 sm_b l2 fits_a (by kernel_rfl) (by kernel_rfl) (by kernel_rfl)
  refine hC.mono ?_
  clear hC
  rintro e w3 ⟨A3, rfl, z3, b3⟩
  replace z1 := z1.below b3
  replace Bd := Bd.under b3
  replace l1 := l1.below b3
  replace z2 := z2.below b3
  replace Ba := Ba.under b3
  replace l2 := l2.below b3
  replace bb := bb.trans (b3.mono bb.size)
  replace z1 := z1.alloc (.cells #[.int .i64 8, .slice A3 2 2, .int .i64 (-1), .bool false, .int .i64 1] 25)
  replace Bd := Bd.alloc (.cells #[.int .i64 8, .slice A3 2 2, .int .i64 (-1), .bool false, .int .i64 1] 25)
  replace l1 := l1.alloc (.cells #[.int .i64 8, .slice A3 2 2, .int .i64 (-1), .bool false, .int .i64 1] 25)
  replace z2 := z2.alloc (.cells #[.int .i64 8, .slice A3 2 2, .int .i64 (-1), .bool false, .int .i64 1] 25)
  replace Ba := Ba.alloc (.cells #[.int .i64 8, .slice A3 2 2, .int .i64 (-1), .bool false, .int .i64 1] 25)
  replace l2 := l2.alloc (.cells #[.int .i64 8, .slice A3 2 2, .int .i64 (-1), .bool false, .int .i64 1] 25)
  replace z3 := z3.alloc (.cells #[.int .i64 8, .slice A3 2 2, .int .i64 (-1), .bool false, .int .i64 1] 25)
  replace bb := bb.alloc bb.size (.cells #[.int .i64 8, .slice A3 2 2, .int .i64 (-1), .bool false, .int .i64 1] 25)
  have Bc := Blk.new w3 #[.int .i64 8, .slice A3 2 2, .int .i64 (-1), .bool false, .int .i64 1] 25
  go_wp2_with fail
  generalize (w3.alloc (.cells #[.int .i64 8, .slice A3 2 2, .int .i64 (-1), .bool false, .int .i64 1] 25)) = W3 at *
  have hC := dRead_ok 8 (-1) 1 false A3 2 2 [zero4, ⟨2, 0, 1, [5]⟩] 1 0 1 [5] 1 W3 z3 sm_c (by decide) (by decide) (by kernel_rfl) (by kernel_rfl) rfl
  refine hC.mono ?_
  clear hC
  rintro e w4 ⟨A4, c4, rfl, N4, b4⟩
  replace z1 := z1.below b4
  replace Bd := Bd.under b4
  replace l1 := l1.below b4
  replace z2 := z2.below b4
  replace Ba := Ba.under b4
  replace l2 := l2.below b4
  replace z3 := z3.below b4
  replace Bc := Bc.under b4
  replace bb := bb.trans (b4.mono bb.size)
  have s4 := N4.sl
  obtain ⟨Bcq0, Bcq1, Bcq2, Bcq3, Bcq4, Bcr0, Bcr1, Bcr2, Bcr3, Bcr4⟩ := Bc.five
  have Bcl := Bc.lt
  go_wp2_with fail
  clear Bcq0 Bcq1 Bcq2 Bcq3 Bcq4 Bcr0 Bcr1 Bcr2 Bcr3 Bcr4
  have hC := dRead_no 8 (-1) 1 false A3 2 2 [zero4, ⟨2, 0, 1, [5]⟩] 1 0 2 w4 z3 sm_c (by decide) (by decide) (by kernel_rfl)
  refine hC.mono ?_
  clear hC
  rintro e w5 ⟨rfl, b5⟩
  replace z1 := z1.below b5
  replace Bd := Bd.under b5
  replace l1 := l1.below b5
  replace z2 := z2.below b5
  replace Ba := Ba.under b5
  replace l2 := l2.below b5
  replace z3 := z3.below b5
  replace Bc := Bc.under b5
  replace s4 := s4.below b5
  replace bb := bb.trans (b5.mono bb.size)
  obtain ⟨Bdq0, Bdq1, Bdq2, Bdq3, Bdq4, Bdr0, Bdr1, Bdr2, Bdr3, Bdr4⟩ := Bd.five
  have Bdl := Bd.lt
  go_wp2_with fail
  clear Bdq0 Bdq1 Bdq2 Bdq3 Bdq4 Bdr0 Bdr1 Bdr2 Bdr3 Bdr4
  have hC := dLimit_at 8 (-1) 0 0 false A1 2 2 [zero4, zero4] w5 z1 sm_a
  refine hC.mono ?_
  clear hC
  rintro e w6 ⟨A6, rfl, z6, b6⟩
  replace z1 := z1.below b6
  replace Bd := Bd.under b6
  replace l1 := l1.below b6
  replace z2 := z2.below b6
  replace Ba := Ba.under b6
  replace l2 := l2.below b6
  replace z3 := z3.below b6
  replace Bc := Bc.under b6
  replace s4 := s4.below b6
  replace bb := bb.trans (b6.mono bb.size)
  go_wp2_with fail
  have hC := dDo_at 8 0 0 false A6 2 2 [zero4, zero4] 5 0 none 0 0 [] 0 0 true [zero4, zero4] 40 w6 z6 sm_a (Sl.nil _) (by decide) (by decide) (by kernel_rfl) (by kernel_rfl) (by kernel_rfl) (by kernel_rfl) (by kernel_rfl)
  refine hC.mono ?_
  clear hC
  rintro e w7 ⟨A7, rfl, z7, b7⟩
  replace z1 := z1.below b7
  replace Bd := Bd.under b7
  replace l1 := l1.below b7
  replace z2 := z2.below b7
  replace Ba := Ba.under b7
  replace l2 := l2.below b7
  replace z3 := z3.below b7
  replace Bc := Bc.under b7
  replace s4 := s4.below b7
  replace z6 := z6.below b7
  replace bb := bb.trans (b7.mono bb.size)
  have qs := str_of (s4.alloc (.cells #[.int .i64 8, .slice A7 2 2, .int .i64 0, .bool true, .int .i64 0] 25))
  have ql := str_of (slB4 (w7.alloc (.cells #[.int .i64 8, .slice A7 2 2, .int .i64 0, .bool true, .int .i64 0] 25)) [5] #[.int .u8 5] rfl (by decide))
  obtain ⟨Baq0, Baq1, Baq2, Baq3, Baq4, Bar0, Bar1, Bar2, Bar3, Bar4⟩ := Ba.five
  have Bal := Ba.lt
  replace z1 := z1.alloc (.cells #[.int .i64 8, .slice A7 2 2, .int .i64 0, .bool true, .int .i64 0] 25)
  replace Bd := Bd.alloc (.cells #[.int .i64 8, .slice A7 2 2, .int .i64 0, .bool true, .int .i64 0] 25)
  replace l1 := l1.alloc (.cells #[.int .i64 8, .slice A7 2 2, .int .i64 0, .bool true, .int .i64 0] 25)
  replace z2 := z2.alloc (.cells #[.int .i64 8, .slice A7 2 2, .int .i64 0, .bool true, .int .i64 0] 25)
  replace Ba := Ba.alloc (.cells #[.int .i64 8, .slice A7 2 2, .int .i64 0, .bool true, .int .i64 0] 25)
  replace l2 := l2.alloc (.cells #[.int .i64 8, .slice A7 2 2, .int .i64 0, .bool true, .int .i64 0] 25)
  replace z3 := z3.alloc (.cells #[.int .i64 8, .slice A7 2 2, .int .i64 0, .bool true, .int .i64 0] 25)
  replace Bc := Bc.alloc (.cells #[.int .i64 8, .slice A7 2 2, .int .i64 0, .bool true, .int .i64 0] 25)
  replace s4 := s4.alloc (.cells #[.int .i64 8, .slice A7 2 2, .int .i64 0, .bool true, .int .i64 0] 25)
  replace z6 := z6.alloc (.cells #[.int .i64 8, .slice A7 2 2, .int .i64 0, .bool true, .int .i64 0] 25)
  replace bb := bb.alloc bb.size (.cells #[.int .i64 8, .slice A7 2 2, .int .i64 0, .bool true, .int .i64 0] 25)
  replace z1 := z1.alloc (.cells #[.int .u8 5] 5)
  replace Bd := Bd.alloc (.cells #[.int .u8 5] 5)
  replace l1 := l1.alloc (.cells #[.int .u8 5] 5)
  replace z2 := z2.alloc (.cells #[.int .u8 5] 5)
  replace Ba := Ba.alloc (.cells #[.int .u8 5] 5)
  replace l2 := l2.alloc (.cells #[.int .u8 5] 5)
  replace z3 := z3.alloc (.cells #[.int .u8 5] 5)
  replace Bc := Bc.alloc (.cells #[.int .u8 5] 5)
  replace s4 := s4.alloc (.cells #[.int .u8 5] 5)
  replace z6 := z6.alloc (.cells #[.int .u8 5] 5)
  replace bb := bb.alloc bb.size (.cells #[.int .u8 5] 5)
  simp only [World.size_alloc, List.length_cons, List.length_nil, Nat.zero_add] at ql
  go_wp2_with fail
  clear Baq0 Baq1 Baq2 Baq3 Baq4 Bar0 Bar1 Bar2 Bar3 Bar4
  generalize ((w7.alloc (.cells #[.int .i64 8, .slice A7 2 2, .int .i64 0, .bool true, .int .i64 0] 25)).alloc (.cells #[.int .u8 5] 5)) = W4 at *
  clear qs ql
  have hC := dOpen_at 8 (-1) 1 false A2 2 2 [zero4, ⟨1, 0, 0, [5, 6]⟩] 1 W4 z2 (by kernel_rfl)
  refine hC.mono ?_
  clear hC
  rintro e w8 ⟨rfl, b8⟩
  replace z1 := z1.below b8
  replace Bd := Bd.under b8
  replace l1 := l1.below b8
  replace z2 := z2.below b8
  replace Ba := Ba.under b8
  replace l2 := l2.below b8
  replace z3 := z3.below b8
  replace Bc := Bc.under b8
  replace s4 := s4.below b8
  replace z6 := z6.below b8
  replace bb := bb.trans (b8.mono bb.size)
  obtain ⟨Bcq0, Bcq1, Bcq2, Bcq3, Bcq4, Bcr0, Bcr1, Bcr2, Bcr3, Bcr4⟩ := Bc.five
  have Bcl := Bc.lt
  go_wp2_with fail
  clear Bcq0 Bcq1 Bcq2 Bcq3 Bcq4 Bcr0 Bcr1 Bcr2 Bcr3 Bcr4
  have hC := dOpen_at 8 (-1) 1 false A3 2 2 [zero4, ⟨2, 0, 1, [5]⟩] 0 w8 z3 (by kernel_rfl)
  refine hC.mono ?_
  clear hC
  rintro e w9 ⟨rfl, b9⟩
  replace z1 := z1.below b9
  replace Bd := Bd.under b9
  replace l1 := l1.below b9
  replace z2 := z2.below b9
  replace Ba := Ba.under b9
  replace l2 := l2.below b9
  replace z3 := z3.below b9
  replace Bc := Bc.under b9
  replace s4 := s4.below b9
  replace z6 := z6.below b9
  replace bb := bb.trans (b9.mono bb.size)
  obtain ⟨Baq0, Baq1, Baq2, Baq3, Baq4, Bar0, Bar1, Bar2, Bar3, Bar4⟩ := Ba.five
  have Bal := Ba.lt
  go_wp2_with fail
  clear Baq0 Baq1 Baq2 Baq3 Baq4 Bar0 Bar1 Bar2 Bar3 Bar4
  have hC := dCheck_at 8 (-1) 1 false A2 2 2 [zero4, ⟨1, 0, 0, [5, 6]⟩] true w9 z2 (by kernel_rfl)
  refine hC.mono ?_
  clear hC
  rintro e w10 ⟨rfl, b10⟩
  replace z1 := z1.below b10
  replace Bd := Bd.under b10
  replace l1 := l1.below b10
  replace z2 := z2.below b10
  replace Ba := Ba.under b10
  replace l2 := l2.below b10
  replace z3 := z3.below b10
  replace Bc := Bc.under b10
  replace s4 := s4.below b10
  replace z6 := z6.below b10
  replace bb := bb.trans (b10.mono bb.size)
  go_wp2_with fail
  have hC := dCheck_at 0 0 0 false none 0 0 [] false w10 (Zs.nil (fun _ => True) _) (by kernel_rfl)
  refine hC.mono ?_
  clear hC
  rintro e w11 ⟨rfl, b11⟩
  replace z1 := z1.below b11
  replace Bd := Bd.under b11
  replace l1 := l1.below b11
  replace z2 := z2.below b11
  replace Ba := Ba.under b11
  replace l2 := l2.below b11
  replace z3 := z3.below b11
  replace Bc := Bc.under b11
  replace s4 := s4.below b11
  replace z6 := z6.below b11
  replace bb := bb.trans (b11.mono bb.size)
  go_wp2
  go_ret
  exact ⟨rfl, bb⟩
end Go.Proofs.Ytnjekhnheihooaa
