/-
  The calls at every statement's head of stage 3 answer as the document says (written by gen_zoneawake.py).
-/
import Derived.Test.YtepknniflkmjnaaZoneSame
namespace Go.Proofs.Ytepknniflkmjnaa
open Go.RowKit Go.Wag
set_option linter.unusedVariables false

theorem slB (w : World) (l : List UInt8) (cells : Array Value) (hc : (l.map v8).toArray = cells) (hl : l.length ≤ 1000) : Sl (w.alloc (.cells cells 5)) (some ⟨w.heap.size, 0, none⟩) l.length l.length (l.map v8) := by
  subst hc
  exact sl8 w l hl

set_option maxHeartbeats 1600000 in
theorem awake3_any (w : World) : Calls Try.prog 10 #[] w fun e w' => e = .returned (.bool true) ∧ Below w.heap.size w w' := by
  have bb := Below.refl w.heap.size w
  go_enter Try.func10, Try.ntmps10
  replace bb := bb.alloc bb.size (.cells #[.int .u8 1, .int .u8 2, .int .u8 3] 5)
  have l1 := slB w [1, 2, 3] #[.int .u8 1, .int .u8 2, .int .u8 3] rfl (by decide)
  go_wp2_with fail
  generalize (w.alloc (.cells #[.int .u8 1, .int .u8 2, .int .u8 3] 5)) = W1 at *
  have hC := zAppend_at 0 0 0 4 _ 3 3 [1, 2, 3] none 0 0 [] 1 0 [1, 2, 3] 3 W1 (Sl.nil _) l1 (by decide) (by decide +kernel) (by decide +kernel) (by decide +kernel) rfl
  refine hC.mono ?_
  clear hC
  rintro e w1 ⟨A1, c1, rfl, N1, b1⟩
  replace l1 := l1.below b1
  replace bb := bb.trans (b1.mono bb.size)
  have s1 := N1.sl
  replace l1 := l1.alloc (.cells #[.int .i64 1, .int .i64 0, .slice A1 3 c1, .int .i64 0] 25)
  replace s1 := s1.alloc (.cells #[.int .i64 1, .int .i64 0, .slice A1 3 c1, .int .i64 0] 25)
  replace bb := bb.alloc bb.size (.cells #[.int .i64 1, .int .i64 0, .slice A1 3 c1, .int .i64 0] 25)
  have Ba := Blk.new w1 #[.int .i64 1, .int .i64 0, .slice A1 3 c1, .int .i64 0] 25
  replace l1 := l1.alloc (.cells #[.int .u8 4, .int .u8 5] 5)
  replace s1 := s1.alloc (.cells #[.int .u8 4, .int .u8 5] 5)
  replace Ba := Ba.alloc (.cells #[.int .u8 4, .int .u8 5] 5)
  replace bb := bb.alloc bb.size (.cells #[.int .u8 4, .int .u8 5] 5)
  have l2 := slB (w1.alloc (.cells #[.int .i64 1, .int .i64 0, .slice A1 3 c1, .int .i64 0] 25)) [4, 5] #[.int .u8 4, .int .u8 5] rfl (by decide)
  simp only [World.size_alloc] at l2
  go_wp2_with fail
  generalize ((w1.alloc (.cells #[.int .i64 1, .int .i64 0, .slice A1 3 c1, .int .i64 0] 25)).alloc (.cells #[.int .u8 4, .int .u8 5] 5)) = W2 at *
  have hC := zAppend_at 1 0 0 4 _ 2 2 [4, 5] A1 3 c1 [1, 2, 3] 1 30 [1, 2, 3] 3 W2 s1 l2 (by decide) (by decide +kernel) (by decide +kernel) (by decide +kernel) rfl
  refine hC.mono ?_
  clear hC
  rintro e w2 ⟨A2, c2, rfl, N2, b2⟩
  replace l1 := l1.below b2
  replace s1 := s1.below b2
  replace Ba := Ba.under b2
  replace l2 := l2.below b2
  replace bb := bb.trans (b2.mono bb.size)
  have s2 := N2.sl
  obtain ⟨Baq0, Baq1, Baq2, Baq3, Bar0, Bar1, Bar2, Bar3⟩ := Ba.four
  have Bal := Ba.lt
  replace l1 := l1.alloc (.cells #[.int .i64 1, .int .i64 0, .slice A2 3 c2, .int .i64 0] 25)
  replace s1 := s1.alloc (.cells #[.int .i64 1, .int .i64 0, .slice A2 3 c2, .int .i64 0] 25)
  replace Ba := Ba.alloc (.cells #[.int .i64 1, .int .i64 0, .slice A2 3 c2, .int .i64 0] 25)
  replace l2 := l2.alloc (.cells #[.int .i64 1, .int .i64 0, .slice A2 3 c2, .int .i64 0] 25)
  replace s2 := s2.alloc (.cells #[.int .i64 1, .int .i64 0, .slice A2 3 c2, .int .i64 0] 25)
  replace bb := bb.alloc bb.size (.cells #[.int .i64 1, .int .i64 0, .slice A2 3 c2, .int .i64 0] 25)
  have Bb := Blk.new w2 #[.int .i64 1, .int .i64 0, .slice A2 3 c2, .int .i64 0] 25
  replace l1 := l1.alloc (.cells #[.int .u8 4] 5)
  replace s1 := s1.alloc (.cells #[.int .u8 4] 5)
  replace Ba := Ba.alloc (.cells #[.int .u8 4] 5)
  replace l2 := l2.alloc (.cells #[.int .u8 4] 5)
  replace s2 := s2.alloc (.cells #[.int .u8 4] 5)
  replace Bb := Bb.alloc (.cells #[.int .u8 4] 5)
  replace bb := bb.alloc bb.size (.cells #[.int .u8 4] 5)
  have l3 := slB (w2.alloc (.cells #[.int .i64 1, .int .i64 0, .slice A2 3 c2, .int .i64 0] 25)) [4] #[.int .u8 4] rfl (by decide)
  simp only [World.size_alloc] at l3
  go_wp2_with fail
  clear Baq0 Baq1 Baq2 Baq3 Bar0 Bar1 Bar2 Bar3
  generalize ((w2.alloc (.cells #[.int .i64 1, .int .i64 0, .slice A2 3 c2, .int .i64 0] 25)).alloc (.cells #[.int .u8 4] 5)) = W3 at *
  have hC := zAppend_at 1 0 0 4 _ 1 1 [4] A1 3 c1 [1, 2, 3] 3 0 [1, 2, 3, 4] 4 W3 s1 l3 (by decide) (by decide +kernel) (by decide +kernel) (by decide +kernel) rfl
  refine hC.mono ?_
  clear hC
  rintro e w3 ⟨A3, c3, rfl, N3, b3⟩
  replace l1 := l1.below b3
  replace s1 := s1.below b3
  replace Ba := Ba.under b3
  replace l2 := l2.below b3
  replace s2 := s2.below b3
  replace Bb := Bb.under b3
  replace l3 := l3.below b3
  replace bb := bb.trans (b3.mono bb.size)
  have s3 := N3.sl
  replace l1 := l1.alloc (.cells #[.int .i64 3, .int .i64 0, .slice A3 4 c3, .int .i64 0] 25)
  replace s1 := s1.alloc (.cells #[.int .i64 3, .int .i64 0, .slice A3 4 c3, .int .i64 0] 25)
  replace Ba := Ba.alloc (.cells #[.int .i64 3, .int .i64 0, .slice A3 4 c3, .int .i64 0] 25)
  replace l2 := l2.alloc (.cells #[.int .i64 3, .int .i64 0, .slice A3 4 c3, .int .i64 0] 25)
  replace s2 := s2.alloc (.cells #[.int .i64 3, .int .i64 0, .slice A3 4 c3, .int .i64 0] 25)
  replace Bb := Bb.alloc (.cells #[.int .i64 3, .int .i64 0, .slice A3 4 c3, .int .i64 0] 25)
  replace l3 := l3.alloc (.cells #[.int .i64 3, .int .i64 0, .slice A3 4 c3, .int .i64 0] 25)
  replace s3 := s3.alloc (.cells #[.int .i64 3, .int .i64 0, .slice A3 4 c3, .int .i64 0] 25)
  replace bb := bb.alloc bb.size (.cells #[.int .i64 3, .int .i64 0, .slice A3 4 c3, .int .i64 0] 25)
  have Bc := Blk.new w3 #[.int .i64 3, .int .i64 0, .slice A3 4 c3, .int .i64 0] 25
  go_wp2_with fail
  generalize (w3.alloc (.cells #[.int .i64 3, .int .i64 0, .slice A3 4 c3, .int .i64 0] 25)) = W4 at *
  have hC := zReset_at 3 0 0 A3 4 c3 [1, 2, 3, 4] 0 1 0 0 [] 0 W4 s3 (by decide) (by decide +kernel) (by decide +kernel) (by decide +kernel) (by decide +kernel) (by decide +kernel) rfl
  refine hC.mono ?_
  clear hC
  rintro e w4 ⟨A4, c4, rfl, N4, b4⟩
  replace l1 := l1.below b4
  replace s1 := s1.below b4
  replace Ba := Ba.under b4
  replace l2 := l2.below b4
  replace s2 := s2.below b4
  replace Bb := Bb.under b4
  replace l3 := l3.below b4
  replace s3 := s3.below b4
  replace Bc := Bc.under b4
  replace bb := bb.trans (b4.mono bb.size)
  have s4 := N4.sl
  obtain ⟨Baq0, Baq1, Baq2, Baq3, Bar0, Bar1, Bar2, Bar3⟩ := Ba.four
  have Bal := Ba.lt
  replace l1 := l1.alloc (.cells #[.int .i64 0, .int .i64 1, .slice A4 0 c4, .int .i64 0] 25)
  replace s1 := s1.alloc (.cells #[.int .i64 0, .int .i64 1, .slice A4 0 c4, .int .i64 0] 25)
  replace Ba := Ba.alloc (.cells #[.int .i64 0, .int .i64 1, .slice A4 0 c4, .int .i64 0] 25)
  replace l2 := l2.alloc (.cells #[.int .i64 0, .int .i64 1, .slice A4 0 c4, .int .i64 0] 25)
  replace s2 := s2.alloc (.cells #[.int .i64 0, .int .i64 1, .slice A4 0 c4, .int .i64 0] 25)
  replace Bb := Bb.alloc (.cells #[.int .i64 0, .int .i64 1, .slice A4 0 c4, .int .i64 0] 25)
  replace l3 := l3.alloc (.cells #[.int .i64 0, .int .i64 1, .slice A4 0 c4, .int .i64 0] 25)
  replace s3 := s3.alloc (.cells #[.int .i64 0, .int .i64 1, .slice A4 0 c4, .int .i64 0] 25)
  replace Bc := Bc.alloc (.cells #[.int .i64 0, .int .i64 1, .slice A4 0 c4, .int .i64 0] 25)
  replace s4 := s4.alloc (.cells #[.int .i64 0, .int .i64 1, .slice A4 0 c4, .int .i64 0] 25)
  replace bb := bb.alloc bb.size (.cells #[.int .i64 0, .int .i64 1, .slice A4 0 c4, .int .i64 0] 25)
  have Bd := Blk.new w4 #[.int .i64 0, .int .i64 1, .slice A4 0 c4, .int .i64 0] 25
  go_wp2_with fail
  clear Baq0 Baq1 Baq2 Baq3 Bar0 Bar1 Bar2 Bar3
  generalize (w4.alloc (.cells #[.int .i64 0, .int .i64 1, .slice A4 0 c4, .int .i64 0] 25)) = W5 at *
  have hC := zCrash_at 1 0 0 4 2 A1 3 c1 [1, 2, 3] 2 2 [1, 2] 2 W5 s1 (by decide) (by decide) (by decide) (by decide +kernel) (by decide +kernel) (by decide +kernel) rfl
  refine hC.mono ?_
  clear hC
  rintro e w5 ⟨A5, c5, rfl, N5, b5⟩
  replace l1 := l1.below b5
  replace s1 := s1.below b5
  replace Ba := Ba.under b5
  replace l2 := l2.below b5
  replace s2 := s2.below b5
  replace Bb := Bb.under b5
  replace l3 := l3.below b5
  replace s3 := s3.below b5
  replace Bc := Bc.under b5
  replace s4 := s4.below b5
  replace Bd := Bd.under b5
  replace bb := bb.trans (b5.mono bb.size)
  have s5 := N5.sl
  obtain ⟨Baq0, Baq1, Baq2, Baq3, Bar0, Bar1, Bar2, Bar3⟩ := Ba.four
  have Bal := Ba.lt
  replace l1 := l1.alloc (.cells #[.int .i64 2, .int .i64 0, .slice A5 2 c5, .int .i64 2] 25)
  replace s1 := s1.alloc (.cells #[.int .i64 2, .int .i64 0, .slice A5 2 c5, .int .i64 2] 25)
  replace Ba := Ba.alloc (.cells #[.int .i64 2, .int .i64 0, .slice A5 2 c5, .int .i64 2] 25)
  replace l2 := l2.alloc (.cells #[.int .i64 2, .int .i64 0, .slice A5 2 c5, .int .i64 2] 25)
  replace s2 := s2.alloc (.cells #[.int .i64 2, .int .i64 0, .slice A5 2 c5, .int .i64 2] 25)
  replace Bb := Bb.alloc (.cells #[.int .i64 2, .int .i64 0, .slice A5 2 c5, .int .i64 2] 25)
  replace l3 := l3.alloc (.cells #[.int .i64 2, .int .i64 0, .slice A5 2 c5, .int .i64 2] 25)
  replace s3 := s3.alloc (.cells #[.int .i64 2, .int .i64 0, .slice A5 2 c5, .int .i64 2] 25)
  replace Bc := Bc.alloc (.cells #[.int .i64 2, .int .i64 0, .slice A5 2 c5, .int .i64 2] 25)
  replace s4 := s4.alloc (.cells #[.int .i64 2, .int .i64 0, .slice A5 2 c5, .int .i64 2] 25)
  replace Bd := Bd.alloc (.cells #[.int .i64 2, .int .i64 0, .slice A5 2 c5, .int .i64 2] 25)
  replace s5 := s5.alloc (.cells #[.int .i64 2, .int .i64 0, .slice A5 2 c5, .int .i64 2] 25)
  replace bb := bb.alloc bb.size (.cells #[.int .i64 2, .int .i64 0, .slice A5 2 c5, .int .i64 2] 25)
  have Bk := Blk.new w5 #[.int .i64 2, .int .i64 0, .slice A5 2 c5, .int .i64 2] 25
  go_wp2_with fail
  clear Baq0 Baq1 Baq2 Baq3 Bar0 Bar1 Bar2 Bar3
  generalize (w5.alloc (.cells #[.int .i64 2, .int .i64 0, .slice A5 2 c5, .int .i64 2] 25)) = W6 at *
  have hC := zClose_at 1 0 0 A1 3 c1 [1, 2, 3] 2 0 W6 s1 (by decide) (by decide +kernel) (by decide +kernel)
  refine hC.mono ?_
  clear hC
  rintro e w6 ⟨A6, c6, rfl, N6, b6⟩
  replace l1 := l1.below b6
  replace s1 := s1.below b6
  replace Ba := Ba.under b6
  replace l2 := l2.below b6
  replace s2 := s2.below b6
  replace Bb := Bb.under b6
  replace l3 := l3.below b6
  replace s3 := s3.below b6
  replace Bc := Bc.under b6
  replace s4 := s4.below b6
  replace Bd := Bd.under b6
  replace s5 := s5.below b6
  replace Bk := Bk.under b6
  replace bb := bb.trans (b6.mono bb.size)
  have s6 := N6.sl
  replace l1 := l1.alloc (.cells #[.int .i64 2, .int .i64 0, .slice A6 3 c6, .int .i64 0] 25)
  replace s1 := s1.alloc (.cells #[.int .i64 2, .int .i64 0, .slice A6 3 c6, .int .i64 0] 25)
  replace Ba := Ba.alloc (.cells #[.int .i64 2, .int .i64 0, .slice A6 3 c6, .int .i64 0] 25)
  replace l2 := l2.alloc (.cells #[.int .i64 2, .int .i64 0, .slice A6 3 c6, .int .i64 0] 25)
  replace s2 := s2.alloc (.cells #[.int .i64 2, .int .i64 0, .slice A6 3 c6, .int .i64 0] 25)
  replace Bb := Bb.alloc (.cells #[.int .i64 2, .int .i64 0, .slice A6 3 c6, .int .i64 0] 25)
  replace l3 := l3.alloc (.cells #[.int .i64 2, .int .i64 0, .slice A6 3 c6, .int .i64 0] 25)
  replace s3 := s3.alloc (.cells #[.int .i64 2, .int .i64 0, .slice A6 3 c6, .int .i64 0] 25)
  replace Bc := Bc.alloc (.cells #[.int .i64 2, .int .i64 0, .slice A6 3 c6, .int .i64 0] 25)
  replace s4 := s4.alloc (.cells #[.int .i64 2, .int .i64 0, .slice A6 3 c6, .int .i64 0] 25)
  replace Bd := Bd.alloc (.cells #[.int .i64 2, .int .i64 0, .slice A6 3 c6, .int .i64 0] 25)
  replace s5 := s5.alloc (.cells #[.int .i64 2, .int .i64 0, .slice A6 3 c6, .int .i64 0] 25)
  replace Bk := Bk.alloc (.cells #[.int .i64 2, .int .i64 0, .slice A6 3 c6, .int .i64 0] 25)
  replace s6 := s6.alloc (.cells #[.int .i64 2, .int .i64 0, .slice A6 3 c6, .int .i64 0] 25)
  replace bb := bb.alloc bb.size (.cells #[.int .i64 2, .int .i64 0, .slice A6 3 c6, .int .i64 0] 25)
  have Bl := Blk.new w6 #[.int .i64 2, .int .i64 0, .slice A6 3 c6, .int .i64 0] 25
  go_wp2_with fail
  generalize (w6.alloc (.cells #[.int .i64 2, .int .i64 0, .slice A6 3 c6, .int .i64 0] 25)) = W7 at *
  have hC := zFinish_at 2 0 0 A6 3 c6 [1, 2, 3] 3 0 W7 s6 (by decide) (by decide +kernel) (by decide +kernel)
  refine hC.mono ?_
  clear hC
  rintro e w7 ⟨A7, c7, rfl, N7, b7⟩
  replace l1 := l1.below b7
  replace s1 := s1.below b7
  replace Ba := Ba.under b7
  replace l2 := l2.below b7
  replace s2 := s2.below b7
  replace Bb := Bb.under b7
  replace l3 := l3.below b7
  replace s3 := s3.below b7
  replace Bc := Bc.under b7
  replace s4 := s4.below b7
  replace Bd := Bd.under b7
  replace s5 := s5.below b7
  replace Bk := Bk.under b7
  replace s6 := s6.below b7
  replace Bl := Bl.under b7
  replace bb := bb.trans (b7.mono bb.size)
  have s7 := N7.sl
  obtain ⟨Baq0, Baq1, Baq2, Baq3, Bar0, Bar1, Bar2, Bar3⟩ := Ba.four
  have Bal := Ba.lt
  replace l1 := l1.alloc (.cells #[.int .i64 3, .int .i64 0, .slice A7 3 c7, .int .i64 0] 25)
  replace s1 := s1.alloc (.cells #[.int .i64 3, .int .i64 0, .slice A7 3 c7, .int .i64 0] 25)
  replace Ba := Ba.alloc (.cells #[.int .i64 3, .int .i64 0, .slice A7 3 c7, .int .i64 0] 25)
  replace l2 := l2.alloc (.cells #[.int .i64 3, .int .i64 0, .slice A7 3 c7, .int .i64 0] 25)
  replace s2 := s2.alloc (.cells #[.int .i64 3, .int .i64 0, .slice A7 3 c7, .int .i64 0] 25)
  replace Bb := Bb.alloc (.cells #[.int .i64 3, .int .i64 0, .slice A7 3 c7, .int .i64 0] 25)
  replace l3 := l3.alloc (.cells #[.int .i64 3, .int .i64 0, .slice A7 3 c7, .int .i64 0] 25)
  replace s3 := s3.alloc (.cells #[.int .i64 3, .int .i64 0, .slice A7 3 c7, .int .i64 0] 25)
  replace Bc := Bc.alloc (.cells #[.int .i64 3, .int .i64 0, .slice A7 3 c7, .int .i64 0] 25)
  replace s4 := s4.alloc (.cells #[.int .i64 3, .int .i64 0, .slice A7 3 c7, .int .i64 0] 25)
  replace Bd := Bd.alloc (.cells #[.int .i64 3, .int .i64 0, .slice A7 3 c7, .int .i64 0] 25)
  replace s5 := s5.alloc (.cells #[.int .i64 3, .int .i64 0, .slice A7 3 c7, .int .i64 0] 25)
  replace Bk := Bk.alloc (.cells #[.int .i64 3, .int .i64 0, .slice A7 3 c7, .int .i64 0] 25)
  replace s6 := s6.alloc (.cells #[.int .i64 3, .int .i64 0, .slice A7 3 c7, .int .i64 0] 25)
  replace Bl := Bl.alloc (.cells #[.int .i64 3, .int .i64 0, .slice A7 3 c7, .int .i64 0] 25)
  replace s7 := s7.alloc (.cells #[.int .i64 3, .int .i64 0, .slice A7 3 c7, .int .i64 0] 25)
  replace bb := bb.alloc bb.size (.cells #[.int .i64 3, .int .i64 0, .slice A7 3 c7, .int .i64 0] 25)
  have Bm := Blk.new w7 #[.int .i64 3, .int .i64 0, .slice A7 3 c7, .int .i64 0] 25
  replace l1 := l1.alloc (.cells #[.int .u8 1, .int .u8 2, .int .u8 3] 5)
  replace s1 := s1.alloc (.cells #[.int .u8 1, .int .u8 2, .int .u8 3] 5)
  replace Ba := Ba.alloc (.cells #[.int .u8 1, .int .u8 2, .int .u8 3] 5)
  replace l2 := l2.alloc (.cells #[.int .u8 1, .int .u8 2, .int .u8 3] 5)
  replace s2 := s2.alloc (.cells #[.int .u8 1, .int .u8 2, .int .u8 3] 5)
  replace Bb := Bb.alloc (.cells #[.int .u8 1, .int .u8 2, .int .u8 3] 5)
  replace l3 := l3.alloc (.cells #[.int .u8 1, .int .u8 2, .int .u8 3] 5)
  replace s3 := s3.alloc (.cells #[.int .u8 1, .int .u8 2, .int .u8 3] 5)
  replace Bc := Bc.alloc (.cells #[.int .u8 1, .int .u8 2, .int .u8 3] 5)
  replace s4 := s4.alloc (.cells #[.int .u8 1, .int .u8 2, .int .u8 3] 5)
  replace Bd := Bd.alloc (.cells #[.int .u8 1, .int .u8 2, .int .u8 3] 5)
  replace s5 := s5.alloc (.cells #[.int .u8 1, .int .u8 2, .int .u8 3] 5)
  replace Bk := Bk.alloc (.cells #[.int .u8 1, .int .u8 2, .int .u8 3] 5)
  replace s6 := s6.alloc (.cells #[.int .u8 1, .int .u8 2, .int .u8 3] 5)
  replace Bl := Bl.alloc (.cells #[.int .u8 1, .int .u8 2, .int .u8 3] 5)
  replace s7 := s7.alloc (.cells #[.int .u8 1, .int .u8 2, .int .u8 3] 5)
  replace Bm := Bm.alloc (.cells #[.int .u8 1, .int .u8 2, .int .u8 3] 5)
  replace bb := bb.alloc bb.size (.cells #[.int .u8 1, .int .u8 2, .int .u8 3] 5)
  have l4 := slB (w7.alloc (.cells #[.int .i64 3, .int .i64 0, .slice A7 3 c7, .int .i64 0] 25)) [1, 2, 3] #[.int .u8 1, .int .u8 2, .int .u8 3] rfl (by decide)
  simp only [World.size_alloc] at l4
  go_wp2_with fail
  clear Baq0 Baq1 Baq2 Baq3 Bar0 Bar1 Bar2 Bar3
  generalize ((w7.alloc (.cells #[.int .i64 3, .int .i64 0, .slice A7 3 c7, .int .i64 0] 25)).alloc (.cells #[.int .u8 1, .int .u8 2, .int .u8 3] 5)) = W8 at *
  have hC := zSame_at 1 0 0 A1 3 c1 [1, 2, 3] 1 0 0 _ 3 3 [1, 2, 3] true W8 s1 l4 (by decide +kernel)
  refine hC.mono ?_
  clear hC
  rintro e w8 ⟨rfl, b8⟩
  replace l1 := l1.below b8
  replace s1 := s1.below b8
  replace Ba := Ba.under b8
  replace l2 := l2.below b8
  replace s2 := s2.below b8
  replace Bb := Bb.under b8
  replace l3 := l3.below b8
  replace s3 := s3.below b8
  replace Bc := Bc.under b8
  replace s4 := s4.below b8
  replace Bd := Bd.under b8
  replace s5 := s5.below b8
  replace Bk := Bk.under b8
  replace s6 := s6.below b8
  replace Bl := Bl.under b8
  replace s7 := s7.below b8
  replace Bm := Bm.under b8
  replace l4 := l4.below b8
  replace bb := bb.trans (b8.mono bb.size)
  obtain ⟨Baq0, Baq1, Baq2, Baq3, Bar0, Bar1, Bar2, Bar3⟩ := Ba.four
  have Bal := Ba.lt
  obtain ⟨Bbq0, Bbq1, Bbq2, Bbq3, Bbr0, Bbr1, Bbr2, Bbr3⟩ := Bb.four
  have Bbl := Bb.lt
  go_wp2_with fail
  clear Baq0 Baq1 Baq2 Baq3 Bar0 Bar1 Bar2 Bar3
  clear Bbq0 Bbq1 Bbq2 Bbq3 Bbr0 Bbr1 Bbr2 Bbr3
  have hC := zSame_at 1 0 0 A2 3 c2 [1, 2, 3] 1 0 0 A1 3 c1 [1, 2, 3] true w8 s2 s1 (by decide +kernel)
  refine hC.mono ?_
  clear hC
  rintro e w9 ⟨rfl, b9⟩
  replace l1 := l1.below b9
  replace s1 := s1.below b9
  replace Ba := Ba.under b9
  replace l2 := l2.below b9
  replace s2 := s2.below b9
  replace Bb := Bb.under b9
  replace l3 := l3.below b9
  replace s3 := s3.below b9
  replace Bc := Bc.under b9
  replace s4 := s4.below b9
  replace Bd := Bd.under b9
  replace s5 := s5.below b9
  replace Bk := Bk.under b9
  replace s6 := s6.below b9
  replace Bl := Bl.under b9
  replace s7 := s7.below b9
  replace Bm := Bm.under b9
  replace l4 := l4.below b9
  replace bb := bb.trans (b9.mono bb.size)
  obtain ⟨Bdq0, Bdq1, Bdq2, Bdq3, Bdr0, Bdr1, Bdr2, Bdr3⟩ := Bd.four
  have Bdl := Bd.lt
  go_wp2_with fail
  clear Bdq0 Bdq1 Bdq2 Bdq3 Bdr0 Bdr1 Bdr2 Bdr3
  have hC := zSame_at 0 1 0 A4 0 c4 [] 0 1 0 none 0 0 [] true w9 s4 (Sl.nil _) (by decide +kernel)
  refine hC.mono ?_
  clear hC
  rintro e w10 ⟨rfl, b10⟩
  replace l1 := l1.below b10
  replace s1 := s1.below b10
  replace Ba := Ba.under b10
  replace l2 := l2.below b10
  replace s2 := s2.below b10
  replace Bb := Bb.under b10
  replace l3 := l3.below b10
  replace s3 := s3.below b10
  replace Bc := Bc.under b10
  replace s4 := s4.below b10
  replace Bd := Bd.under b10
  replace s5 := s5.below b10
  replace Bk := Bk.under b10
  replace s6 := s6.below b10
  replace Bl := Bl.under b10
  replace s7 := s7.below b10
  replace Bm := Bm.under b10
  replace l4 := l4.below b10
  replace bb := bb.trans (b10.mono bb.size)
  obtain ⟨Bkq0, Bkq1, Bkq2, Bkq3, Bkr0, Bkr1, Bkr2, Bkr3⟩ := Bk.four
  have Bkl := Bk.lt
  replace l1 := l1.alloc (.cells #[.int .u8 1, .int .u8 2] 5)
  replace s1 := s1.alloc (.cells #[.int .u8 1, .int .u8 2] 5)
  replace Ba := Ba.alloc (.cells #[.int .u8 1, .int .u8 2] 5)
  replace l2 := l2.alloc (.cells #[.int .u8 1, .int .u8 2] 5)
  replace s2 := s2.alloc (.cells #[.int .u8 1, .int .u8 2] 5)
  replace Bb := Bb.alloc (.cells #[.int .u8 1, .int .u8 2] 5)
  replace l3 := l3.alloc (.cells #[.int .u8 1, .int .u8 2] 5)
  replace s3 := s3.alloc (.cells #[.int .u8 1, .int .u8 2] 5)
  replace Bc := Bc.alloc (.cells #[.int .u8 1, .int .u8 2] 5)
  replace s4 := s4.alloc (.cells #[.int .u8 1, .int .u8 2] 5)
  replace Bd := Bd.alloc (.cells #[.int .u8 1, .int .u8 2] 5)
  replace s5 := s5.alloc (.cells #[.int .u8 1, .int .u8 2] 5)
  replace Bk := Bk.alloc (.cells #[.int .u8 1, .int .u8 2] 5)
  replace s6 := s6.alloc (.cells #[.int .u8 1, .int .u8 2] 5)
  replace Bl := Bl.alloc (.cells #[.int .u8 1, .int .u8 2] 5)
  replace s7 := s7.alloc (.cells #[.int .u8 1, .int .u8 2] 5)
  replace Bm := Bm.alloc (.cells #[.int .u8 1, .int .u8 2] 5)
  replace l4 := l4.alloc (.cells #[.int .u8 1, .int .u8 2] 5)
  replace bb := bb.alloc bb.size (.cells #[.int .u8 1, .int .u8 2] 5)
  have l5 := slB w10 [1, 2] #[.int .u8 1, .int .u8 2] rfl (by decide)
  go_wp2_with fail
  clear Bkq0 Bkq1 Bkq2 Bkq3 Bkr0 Bkr1 Bkr2 Bkr3
  generalize (w10.alloc (.cells #[.int .u8 1, .int .u8 2] 5)) = W9 at *
  have hC := zSame_at 2 0 2 A5 2 c5 [1, 2] 2 0 2 _ 2 2 [1, 2] true W9 s5 l5 (by decide +kernel)
  refine hC.mono ?_
  clear hC
  rintro e w11 ⟨rfl, b11⟩
  replace l1 := l1.below b11
  replace s1 := s1.below b11
  replace Ba := Ba.under b11
  replace l2 := l2.below b11
  replace s2 := s2.below b11
  replace Bb := Bb.under b11
  replace l3 := l3.below b11
  replace s3 := s3.below b11
  replace Bc := Bc.under b11
  replace s4 := s4.below b11
  replace Bd := Bd.under b11
  replace s5 := s5.below b11
  replace Bk := Bk.under b11
  replace s6 := s6.below b11
  replace Bl := Bl.under b11
  replace s7 := s7.below b11
  replace Bm := Bm.under b11
  replace l4 := l4.below b11
  replace l5 := l5.below b11
  replace bb := bb.trans (b11.mono bb.size)
  obtain ⟨Baq0, Baq1, Baq2, Baq3, Bar0, Bar1, Bar2, Bar3⟩ := Ba.four
  have Bal := Ba.lt
  obtain ⟨Bcq0, Bcq1, Bcq2, Bcq3, Bcr0, Bcr1, Bcr2, Bcr3⟩ := Bc.four
  have Bcl := Bc.lt
  obtain ⟨Blq0, Blq1, Blq2, Blq3, Blr0, Blr1, Blr2, Blr3⟩ := Bl.four
  have Bll := Bl.lt
  obtain ⟨Bmq0, Bmq1, Bmq2, Bmq3, Bmr0, Bmr1, Bmr2, Bmr3⟩ := Bm.four
  have Bml := Bm.lt
  go_wp2_with fail
  clear Baq0 Baq1 Baq2 Baq3 Bar0 Bar1 Bar2 Bar3
  clear Bcq0 Bcq1 Bcq2 Bcq3 Bcr0 Bcr1 Bcr2 Bcr3
  clear Blq0 Blq1 Blq2 Blq3 Blr0 Blr1 Blr2 Blr3
  clear Bmq0 Bmq1 Bmq2 Bmq3 Bmr0 Bmr1 Bmr2 Bmr3
  have hC := zCheck_at 1 0 0 4 A1 3 c1 true w11 (by decide +kernel)
  refine hC.mono ?_
  clear hC
  rintro e w12 ⟨rfl, b12⟩
  replace l1 := l1.below b12
  replace s1 := s1.below b12
  replace Ba := Ba.under b12
  replace l2 := l2.below b12
  replace s2 := s2.below b12
  replace Bb := Bb.under b12
  replace l3 := l3.below b12
  replace s3 := s3.below b12
  replace Bc := Bc.under b12
  replace s4 := s4.below b12
  replace Bd := Bd.under b12
  replace s5 := s5.below b12
  replace Bk := Bk.under b12
  replace s6 := s6.below b12
  replace Bl := Bl.under b12
  replace s7 := s7.below b12
  replace Bm := Bm.under b12
  replace l4 := l4.below b12
  replace l5 := l5.below b12
  replace bb := bb.trans (b12.mono bb.size)
  obtain ⟨Baq0, Baq1, Baq2, Baq3, Bar0, Bar1, Bar2, Bar3⟩ := Ba.four
  have Bal := Ba.lt
  go_wp2_with fail
  clear Baq0 Baq1 Baq2 Baq3 Bar0 Bar1 Bar2 Bar3
  have hC := zCheck_at 1 0 0 3 A1 3 c1 false w12 (by decide +kernel)
  refine hC.mono ?_
  clear hC
  rintro e w13 ⟨rfl, b13⟩
  replace l1 := l1.below b13
  replace s1 := s1.below b13
  replace Ba := Ba.under b13
  replace l2 := l2.below b13
  replace s2 := s2.below b13
  replace Bb := Bb.under b13
  replace l3 := l3.below b13
  replace s3 := s3.below b13
  replace Bc := Bc.under b13
  replace s4 := s4.below b13
  replace Bd := Bd.under b13
  replace s5 := s5.below b13
  replace Bk := Bk.under b13
  replace s6 := s6.below b13
  replace Bl := Bl.under b13
  replace s7 := s7.below b13
  replace Bm := Bm.under b13
  replace l4 := l4.below b13
  replace l5 := l5.below b13
  replace bb := bb.trans (b13.mono bb.size)
  obtain ⟨Baq0, Baq1, Baq2, Baq3, Bar0, Bar1, Bar2, Bar3⟩ := Ba.four
  have Bal := Ba.lt
  go_wp2_with fail
  clear Baq0 Baq1 Baq2 Baq3 Bar0 Bar1 Bar2 Bar3
  have hC := zRoom_at 1 0 0 4 A1 3 c1 1 w13 (by decide +kernel)
  refine hC.mono ?_
  clear hC
  rintro e w14 ⟨rfl, b14⟩
  replace l1 := l1.below b14
  replace s1 := s1.below b14
  replace Ba := Ba.under b14
  replace l2 := l2.below b14
  replace s2 := s2.below b14
  replace Bb := Bb.under b14
  replace l3 := l3.below b14
  replace s3 := s3.below b14
  replace Bc := Bc.under b14
  replace s4 := s4.below b14
  replace Bd := Bd.under b14
  replace s5 := s5.below b14
  replace Bk := Bk.under b14
  replace s6 := s6.below b14
  replace Bl := Bl.under b14
  replace s7 := s7.below b14
  replace Bm := Bm.under b14
  replace l4 := l4.below b14
  replace l5 := l5.below b14
  replace bb := bb.trans (b14.mono bb.size)
  go_wp2
  go_ret
  exact ⟨rfl, bb⟩
end Go.Proofs.Ytepknniflkmjnaa
