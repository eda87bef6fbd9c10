/-
  ExtentWrites: the walk (written by gen_extwrites.py).
-/
import Derived.Test.YtepaojegcaapfaaExtAwake
import Derived.Test.YtepaojegcaapfaaExtFew
import Derived.Test.YtepaojegcaapfaaRef7h
import Derived.Test.YtepaojegcaapfaaRef7c
import Derived.Test.YtepaojegcaapfaaArgs
namespace Go.Proofs.Ytepaojegcaapfaa
open Go.RowKit Go.Wag
set_option linter.unusedVariables false
set_option linter.unusedSimpArgs false
set_option maxRecDepth 100000 in
set_option maxHeartbeats 8000000 in
theorem exWrites_core {F : Nat → Prop} (xs : List Xp) (A : Option Addr) (n c : Nat) (Ab : Option Addr) (nb cb : Nat) (b : List UInt8) (w : World) (h : Rs extE F w A n c xs) (hla : ∀ x ∈ xs, x.la ≤ 9223372036854775807) (hb : Sl w Ab nb cb (b.map v8)) :
    Calls Try.prog 3 #[.slice A n c, .slice Ab nb cb] w (AwakePost w) := by
  have bb := Below.refl w.heap.size w
  go_enter Try.func3, Try.ntmps3
  go_wp2_with fail
  have hC := awake7_any w
  refine hC.mono ?_
  clear hC
  rintro e w1 ⟨rfl, b1⟩
  replace h := h.below b1
  replace hb := hb.below b1
  replace bb := bb.trans (b1.mono bb.size)
  go_wp2_with fail
  refine (few_any xs A n c w1 h).mono ?_
  rintro e w2 ⟨fr, rfl, hfew, rfl⟩
  cases fr
  · go_wp2
    go_ret
    exact ⟨rfl, bb⟩
  by_cases hbig : (nb : Int) > 5000
  · go_wp2
    go_ret
    exact ⟨rfl, bb⟩
  clear hfew
  have hC0 := eWrite_any xs A n c w1 h hla
  go_wp2_with fail
  have hC := hC0
  refine hC.mono ?_
  clear hC
  rintro e w3 ⟨L3, n3, d3, rfl, S3, N3, b3⟩
  replace h := h.below b3
  replace hb := hb.below b3
  replace bb := bb.trans (b3.mono bb.size)
  clear hC0
  clear N3
  have hC0 := fWrite_any xs A n c w3 h
  go_wp2_with fail
  have hC := hC0
  refine hC.mono ?_
  clear hC
  rintro e w4 ⟨L4, n4, d4, rfl, S4, N4, b4⟩
  replace h := h.below b4
  replace hb := hb.below b4
  replace S3 := S3.below b4
  replace bb := bb.trans (b4.mono bb.size)
  clear hC0
  clear N4
  have hC0 := eRead_any Ab nb cb b w4 hb (by omega)
  go_wp2_with fail
  have hC := hC0
  refine hC.mono ?_
  clear hC
  rintro e w5 ⟨L5, n5, d5, hm5, rfl, S5, b5⟩
  replace h := h.below b5
  replace hb := hb.below b5
  replace S3 := S3.below b5
  replace S4 := S4.below b5
  replace bb := bb.trans (b5.mono bb.size)
  clear hC0
  have hC0 := fRead_any Ab nb cb b w5 hb (by omega)
  go_wp2_with fail
  have hC := hC0
  refine hC.mono ?_
  clear hC
  rintro e w6 ⟨L6, n6, d6, hm6, rfl, S6, b6⟩
  replace h := h.below b6
  replace hb := hb.below b6
  replace S3 := S3.below b6
  replace S4 := S4.below b6
  replace S5 := S5.below b6
  replace bb := bb.trans (b6.mono bb.size)
  clear hC0
  obtain rfl : n5 = n6 := hm5.out.trans hm6.out.symm
  generalize errOf (xwr xs) 70 = e1 at *
  generalize errOf (xrd b) 70 = e2 at *
  generalize (xwr xs).getD [] = l1 at *
  generalize (xrd b).getD [] = l2 at *
  clear hm5 hm6
  go_wp2_with fail
  have hC := fAll_any l2 L5 n5 d5 L6 d6 w6 S5 S6
  refine hC.mono ?_
  clear hC
  rintro e x1 ⟨rfl, c1⟩
  replace h := h.below c1
  replace hb := hb.below c1
  replace S3 := S3.below c1
  replace S4 := S4.below c1
  replace S5 := S5.below c1
  replace S6 := S6.below c1
  replace bb := bb.trans (c1.mono bb.size)
  have q1 := str_of S3
  have q2 := str_of S4
  go_wp2
  go_ret
  exact ⟨rfl, bb⟩
theorem ExtentWrites_walk (a0 : Option Addr) (len0 cap0 : Nat) (a1 : Option Addr) (len1 cap1 : Nat) (z1 : List Int) (w : World) (w0 : IsSts [.num .i64, .num .i64, .num .i64, .num .i64, .row .u8] w a0 len0 cap0) (w1 : IsRow .u8 w a1 len1 cap1 z1) :
    Calls Try.prog 3 #[.slice a0 len0 cap0, .slice a1 len1 cap1] w (AwakePost w) := by
  obtain ⟨xs, hla, h⟩ := exts_of_sts w0
  obtain ⟨l1, h1⟩ := w1.bytes
  exact exWrites_core xs a0 len0 cap0 a1 len1 cap1 l1 w h hla h1
end Go.Proofs.Ytepaojegcaapfaa
