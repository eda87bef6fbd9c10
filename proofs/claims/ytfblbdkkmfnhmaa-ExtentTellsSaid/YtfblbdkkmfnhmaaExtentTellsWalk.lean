/-
  ExtentTells: the walk (written by gen_exttells.py).
-/
import Derived.Test.YtfblbdkkmfnhmaaExtAwake
import Derived.Test.YtfblbdkkmfnhmaaRef7e
import Derived.Test.YtfblbdkkmfnhmaaRef7g
import Derived.Test.YtfblbdkkmfnhmaaArgs
namespace Go.Proofs.Ytfblbdkkmfnhmaa
open Go.RowKit Go.Wag
set_option linter.unusedVariables false
set_option linter.unusedSimpArgs false
set_option maxRecDepth 100000 in
set_option maxHeartbeats 8000000 in
theorem tells_core (la1 n1 k1 g1 : Int) (A1 : Option Addr) (m1 c1 : Nat) (l1 : List UInt8) (la2 n2 k2 g2 : Int) (A2 : Option Addr) (m2 c2 : Nat) (l2 : List UInt8) (a q : Int) (w : World) (hla1 : la1 ≤ 9223372036854775807) (hla2 : la2 ≤ 9223372036854775807) (h1 : Sl w A1 m1 c1 (l1.map v8)) (h2 : Sl w A2 m2 c2 (l2.map v8)) :
    Calls Try.prog 4 #[.agg #[.int .i64 la1, .int .i64 n1, .int .i64 k1, .int .i64 g1, .slice A1 m1 c1], .agg #[.int .i64 la2, .int .i64 n2, .int .i64 k2, .int .i64 g2, .slice A2 m2 c2], .int .i64 a, .int .i64 q] w (AwakePost w) := by
  by_cases hm1 : (m1 : Int) > 3000
  · skip
    have bb := Below.refl w.heap.size w
    have S1 := h1
    have S2 := h2
    go_enter Try.func4, Try.ntmps4
    replace S1 := S1.alloc (.cells #[.int .i64 la1, .int .i64 n1, .int .i64 k1, .int .i64 g1, .slice A1 m1 c1] 25)
    replace S2 := S2.alloc (.cells #[.int .i64 la1, .int .i64 n1, .int .i64 k1, .int .i64 g1, .slice A1 m1 c1] 25)
    replace bb := bb.alloc bb.size (.cells #[.int .i64 la1, .int .i64 n1, .int .i64 k1, .int .i64 g1, .slice A1 m1 c1] 25)
    have Vx := Blk.new w #[.int .i64 la1, .int .i64 n1, .int .i64 k1, .int .i64 g1, .slice A1 m1 c1] 25
    replace S1 := S1.alloc (.cells #[.int .i64 la2, .int .i64 n2, .int .i64 k2, .int .i64 g2, .slice A2 m2 c2] 25)
    replace S2 := S2.alloc (.cells #[.int .i64 la2, .int .i64 n2, .int .i64 k2, .int .i64 g2, .slice A2 m2 c2] 25)
    replace Vx := Vx.alloc (.cells #[.int .i64 la2, .int .i64 n2, .int .i64 k2, .int .i64 g2, .slice A2 m2 c2] 25)
    replace bb := bb.alloc bb.size (.cells #[.int .i64 la2, .int .i64 n2, .int .i64 k2, .int .i64 g2, .slice A2 m2 c2] 25)
    have Vy := Blk.new (w.alloc (.cells #[.int .i64 la1, .int .i64 n1, .int .i64 k1, .int .i64 g1, .slice A1 m1 c1] 25)) #[.int .i64 la2, .int .i64 n2, .int .i64 k2, .int .i64 g2, .slice A2 m2 c2] 25
    simp only [World.size_alloc] at Vy
    go_wp2_with fail
    generalize ((w.alloc (.cells #[.int .i64 la1, .int .i64 n1, .int .i64 k1, .int .i64 g1, .slice A1 m1 c1] 25)).alloc (.cells #[.int .i64 la2, .int .i64 n2, .int .i64 k2, .int .i64 g2, .slice A2 m2 c2] 25)) = wa at *
    have hC := awake7_any wa
    refine hC.mono ?_
    clear hC
    rintro e w1 ⟨rfl, b1⟩
    replace S1 := S1.below b1
    replace S2 := S2.below b1
    replace Vx := Vx.under b1
    replace Vy := Vy.under b1
    replace bb := bb.trans (b1.mono bb.size)
    obtain ⟨Vxq0, Vxq1, Vxq2, Vxq3, Vxq4, Vxr0, Vxr1, Vxr2, Vxr3, Vxr4⟩ := Vx.five
    have Vxl := Vx.lt
    obtain ⟨Vyq0, Vyq1, Vyq2, Vyq3, Vyq4, Vyr0, Vyr1, Vyr2, Vyr3, Vyr4⟩ := Vy.five
    have Vyl := Vy.lt
    go_wp2
    go_ret
    exact ⟨rfl, bb⟩
  by_cases hm2 : (m2 : Int) > 3000
  · skip
    have bb := Below.refl w.heap.size w
    have S1 := h1
    have S2 := h2
    go_enter Try.func4, Try.ntmps4
    replace S1 := S1.alloc (.cells #[.int .i64 la1, .int .i64 n1, .int .i64 k1, .int .i64 g1, .slice A1 m1 c1] 25)
    replace S2 := S2.alloc (.cells #[.int .i64 la1, .int .i64 n1, .int .i64 k1, .int .i64 g1, .slice A1 m1 c1] 25)
    replace bb := bb.alloc bb.size (.cells #[.int .i64 la1, .int .i64 n1, .int .i64 k1, .int .i64 g1, .slice A1 m1 c1] 25)
    have Vx := Blk.new w #[.int .i64 la1, .int .i64 n1, .int .i64 k1, .int .i64 g1, .slice A1 m1 c1] 25
    replace S1 := S1.alloc (.cells #[.int .i64 la2, .int .i64 n2, .int .i64 k2, .int .i64 g2, .slice A2 m2 c2] 25)
    replace S2 := S2.alloc (.cells #[.int .i64 la2, .int .i64 n2, .int .i64 k2, .int .i64 g2, .slice A2 m2 c2] 25)
    replace Vx := Vx.alloc (.cells #[.int .i64 la2, .int .i64 n2, .int .i64 k2, .int .i64 g2, .slice A2 m2 c2] 25)
    replace bb := bb.alloc bb.size (.cells #[.int .i64 la2, .int .i64 n2, .int .i64 k2, .int .i64 g2, .slice A2 m2 c2] 25)
    have Vy := Blk.new (w.alloc (.cells #[.int .i64 la1, .int .i64 n1, .int .i64 k1, .int .i64 g1, .slice A1 m1 c1] 25)) #[.int .i64 la2, .int .i64 n2, .int .i64 k2, .int .i64 g2, .slice A2 m2 c2] 25
    simp only [World.size_alloc] at Vy
    go_wp2_with fail
    generalize ((w.alloc (.cells #[.int .i64 la1, .int .i64 n1, .int .i64 k1, .int .i64 g1, .slice A1 m1 c1] 25)).alloc (.cells #[.int .i64 la2, .int .i64 n2, .int .i64 k2, .int .i64 g2, .slice A2 m2 c2] 25)) = wa at *
    have hC := awake7_any wa
    refine hC.mono ?_
    clear hC
    rintro e w1 ⟨rfl, b1⟩
    replace S1 := S1.below b1
    replace S2 := S2.below b1
    replace Vx := Vx.under b1
    replace Vy := Vy.under b1
    replace bb := bb.trans (b1.mono bb.size)
    obtain ⟨Vxq0, Vxq1, Vxq2, Vxq3, Vxq4, Vxr0, Vxr1, Vxr2, Vxr3, Vxr4⟩ := Vx.five
    have Vxl := Vx.lt
    obtain ⟨Vyq0, Vyq1, Vyq2, Vyq3, Vyq4, Vyr0, Vyr1, Vyr2, Vyr3, Vyr4⟩ := Vy.five
    have Vyl := Vy.lt
    go_wp2
    go_ret
    exact ⟨rfl, bb⟩
  obtain ⟨ya, hya⟩ : ∃ y, Hid ((xcut ⟨la1, n1, k1, g1, l1⟩ a q).getD x0 = y) := ⟨_, rfl⟩
  obtain ⟨yj, hyj⟩ : ∃ y, Hid ((xjoin ⟨la1, n1, k1, g1, l1⟩ ⟨la2, n2, k2, g2, l2⟩).getD x0 = y) := ⟨_, rfl⟩
  obtain ⟨bc, hbc⟩ : ∃ y, Hid ((xcut ⟨la1, n1, k1, g1, l1⟩ a q).isSome = y) := ⟨_, rfl⟩
  obtain ⟨ej, hej⟩ : ∃ y, Hid (errOf (xjoin ⟨la1, n1, k1, g1, l1⟩ ⟨la2, n2, k2, g2, l2⟩) 70 = y) := ⟨_, rfl⟩
  obtain ⟨ala, an, ak, ag, al⟩ := ya
  obtain ⟨jla, jn, jk, jg, jl⟩ := yj
  have bb := Below.refl w.heap.size w
  have S1 := h1
  have S2 := h2
  go_enter Try.func4, Try.ntmps4
  replace S1 := S1.alloc (.cells #[.int .i64 la1, .int .i64 n1, .int .i64 k1, .int .i64 g1, .slice A1 m1 c1] 25)
  replace S2 := S2.alloc (.cells #[.int .i64 la1, .int .i64 n1, .int .i64 k1, .int .i64 g1, .slice A1 m1 c1] 25)
  replace bb := bb.alloc bb.size (.cells #[.int .i64 la1, .int .i64 n1, .int .i64 k1, .int .i64 g1, .slice A1 m1 c1] 25)
  have Vx := Blk.new w #[.int .i64 la1, .int .i64 n1, .int .i64 k1, .int .i64 g1, .slice A1 m1 c1] 25
  replace S1 := S1.alloc (.cells #[.int .i64 la2, .int .i64 n2, .int .i64 k2, .int .i64 g2, .slice A2 m2 c2] 25)
  replace S2 := S2.alloc (.cells #[.int .i64 la2, .int .i64 n2, .int .i64 k2, .int .i64 g2, .slice A2 m2 c2] 25)
  replace Vx := Vx.alloc (.cells #[.int .i64 la2, .int .i64 n2, .int .i64 k2, .int .i64 g2, .slice A2 m2 c2] 25)
  replace bb := bb.alloc bb.size (.cells #[.int .i64 la2, .int .i64 n2, .int .i64 k2, .int .i64 g2, .slice A2 m2 c2] 25)
  have Vy := Blk.new (w.alloc (.cells #[.int .i64 la1, .int .i64 n1, .int .i64 k1, .int .i64 g1, .slice A1 m1 c1] 25)) #[.int .i64 la2, .int .i64 n2, .int .i64 k2, .int .i64 g2, .slice A2 m2 c2] 25
  simp only [World.size_alloc] at Vy
  go_wp2_with fail
  generalize ((w.alloc (.cells #[.int .i64 la1, .int .i64 n1, .int .i64 k1, .int .i64 g1, .slice A1 m1 c1] 25)).alloc (.cells #[.int .i64 la2, .int .i64 n2, .int .i64 k2, .int .i64 g2, .slice A2 m2 c2] 25)) = wa at *
  have hC := awake7_any wa
  refine hC.mono ?_
  clear hC
  rintro e w1 ⟨rfl, b1⟩
  replace S1 := S1.below b1
  replace S2 := S2.below b1
  replace Vx := Vx.under b1
  replace Vy := Vy.under b1
  replace bb := bb.trans (b1.mono bb.size)
  obtain ⟨Vxq0, Vxq1, Vxq2, Vxq3, Vxq4, Vxr0, Vxr1, Vxr2, Vxr3, Vxr4⟩ := Vx.five
  have Vxl := Vx.lt
  obtain ⟨Vyq0, Vyq1, Vyq2, Vyq3, Vyq4, Vyr0, Vyr1, Vyr2, Vyr3, Vyr4⟩ := Vy.five
  have Vyl := Vy.lt
  go_wp2_with fail
  clear Vxq0 Vxq1 Vxq2 Vxq3 Vxq4 Vxr0 Vxr1 Vxr2 Vxr3 Vxr4
  clear Vyq0 Vyq1 Vyq2 Vyq3 Vyq4 Vyr0 Vyr1 Vyr2 Vyr3 Vyr4
  have hC := EPost.eq (eCut_any la1 n1 k1 g1 A1 m1 c1 l1 a q w1 hla1 S1) (congrArg Value.bool hbc.out) hya.out
  refine hC.mono ?_
  clear hC
  rintro e w3 ⟨Aa, ma, ca, hma, rfl, Na, Ba⟩
  replace S1 := S1.below Ba
  replace S2 := S2.below Ba
  replace Vx := Vx.under Ba
  replace Vy := Vy.under Ba
  replace bb := bb.trans (Ba.mono bb.size)
  have Sa := Na.sl
  clear Na hma
  try dsimp only at Sa
  try dsimp only
  obtain ⟨Vxq0, Vxq1, Vxq2, Vxq3, Vxq4, Vxr0, Vxr1, Vxr2, Vxr3, Vxr4⟩ := Vx.five
  have Vxl := Vx.lt
  replace S1 := S1.alloc (.cells #[.int .i64 ala, .int .i64 an, .int .i64 ak, .int .i64 ag, .slice Aa ma ca] 25)
  replace S2 := S2.alloc (.cells #[.int .i64 ala, .int .i64 an, .int .i64 ak, .int .i64 ag, .slice Aa ma ca] 25)
  replace Vx := Vx.alloc (.cells #[.int .i64 ala, .int .i64 an, .int .i64 ak, .int .i64 ag, .slice Aa ma ca] 25)
  replace Vy := Vy.alloc (.cells #[.int .i64 ala, .int .i64 an, .int .i64 ak, .int .i64 ag, .slice Aa ma ca] 25)
  replace Sa := Sa.alloc (.cells #[.int .i64 ala, .int .i64 an, .int .i64 ak, .int .i64 ag, .slice Aa ma ca] 25)
  replace bb := bb.alloc bb.size (.cells #[.int .i64 ala, .int .i64 an, .int .i64 ak, .int .i64 ag, .slice Aa ma ca] 25)
  have Va := Blk.new w3 #[.int .i64 ala, .int .i64 an, .int .i64 ak, .int .i64 ag, .slice Aa ma ca] 25
  go_wp2_with fail
  clear Vxq0 Vxq1 Vxq2 Vxq3 Vxq4 Vxr0 Vxr1 Vxr2 Vxr3 Vxr4
  generalize (w3.alloc (.cells #[.int .i64 ala, .int .i64 an, .int .i64 ak, .int .i64 ag, .slice Aa ma ca] 25)) = wb at *
  have hC := EPost.eq (fCut_any la1 n1 k1 g1 A1 m1 c1 l1 a q wb S1) (congrArg Value.bool hbc.out) hya.out
  refine hC.mono ?_
  clear hC
  rintro e w4 ⟨Ab, mb, cb, hmb, rfl, Nb, Bb⟩
  replace S1 := S1.below Bb
  replace S2 := S2.below Bb
  replace Vx := Vx.under Bb
  replace Vy := Vy.under Bb
  replace Sa := Sa.below Bb
  replace Va := Va.under Bb
  replace bb := bb.trans (Bb.mono bb.size)
  have Sb := Nb.sl
  clear Nb hmb
  try dsimp only at Sb
  try dsimp only
  obtain ⟨Vxq0, Vxq1, Vxq2, Vxq3, Vxq4, Vxr0, Vxr1, Vxr2, Vxr3, Vxr4⟩ := Vx.five
  have Vxl := Vx.lt
  obtain ⟨Vyq0, Vyq1, Vyq2, Vyq3, Vyq4, Vyr0, Vyr1, Vyr2, Vyr3, Vyr4⟩ := Vy.five
  have Vyl := Vy.lt
  replace S1 := S1.alloc (.cells #[.int .i64 ala, .int .i64 an, .int .i64 ak, .int .i64 ag, .slice Ab mb cb] 25)
  replace S2 := S2.alloc (.cells #[.int .i64 ala, .int .i64 an, .int .i64 ak, .int .i64 ag, .slice Ab mb cb] 25)
  replace Vx := Vx.alloc (.cells #[.int .i64 ala, .int .i64 an, .int .i64 ak, .int .i64 ag, .slice Ab mb cb] 25)
  replace Vy := Vy.alloc (.cells #[.int .i64 ala, .int .i64 an, .int .i64 ak, .int .i64 ag, .slice Ab mb cb] 25)
  replace Sa := Sa.alloc (.cells #[.int .i64 ala, .int .i64 an, .int .i64 ak, .int .i64 ag, .slice Ab mb cb] 25)
  replace Va := Va.alloc (.cells #[.int .i64 ala, .int .i64 an, .int .i64 ak, .int .i64 ag, .slice Ab mb cb] 25)
  replace Sb := Sb.alloc (.cells #[.int .i64 ala, .int .i64 an, .int .i64 ak, .int .i64 ag, .slice Ab mb cb] 25)
  replace bb := bb.alloc bb.size (.cells #[.int .i64 ala, .int .i64 an, .int .i64 ak, .int .i64 ag, .slice Ab mb cb] 25)
  have Vb := Blk.new w4 #[.int .i64 ala, .int .i64 an, .int .i64 ak, .int .i64 ag, .slice Ab mb cb] 25
  go_wp2_with fail
  clear Vxq0 Vxq1 Vxq2 Vxq3 Vxq4 Vxr0 Vxr1 Vxr2 Vxr3 Vxr4
  clear Vyq0 Vyq1 Vyq2 Vyq3 Vyq4 Vyr0 Vyr1 Vyr2 Vyr3 Vyr4
  generalize (w4.alloc (.cells #[.int .i64 ala, .int .i64 an, .int .i64 ak, .int .i64 ag, .slice Ab mb cb] 25)) = wc at *
  have hC := EPost.eq (eJoin_any la1 n1 k1 g1 A1 m1 c1 l1 la2 n2 k2 g2 A2 m2 c2 l2 wc hla1 hla2 S1 S2) (congrArg (Value.int .i64) hej.out) hyj.out
  refine hC.mono ?_
  clear hC
  rintro e w5 ⟨Ac, mc, cc, hmc, rfl, Nc, Bc⟩
  replace S1 := S1.below Bc
  replace S2 := S2.below Bc
  replace Vx := Vx.under Bc
  replace Vy := Vy.under Bc
  replace Sa := Sa.below Bc
  replace Va := Va.under Bc
  replace Sb := Sb.below Bc
  replace Vb := Vb.under Bc
  replace bb := bb.trans (Bc.mono bb.size)
  have Sc := Nc.sl
  clear Nc hmc
  try dsimp only at Sc
  try dsimp only
  obtain ⟨Vxq0, Vxq1, Vxq2, Vxq3, Vxq4, Vxr0, Vxr1, Vxr2, Vxr3, Vxr4⟩ := Vx.five
  have Vxl := Vx.lt
  obtain ⟨Vyq0, Vyq1, Vyq2, Vyq3, Vyq4, Vyr0, Vyr1, Vyr2, Vyr3, Vyr4⟩ := Vy.five
  have Vyl := Vy.lt
  replace S1 := S1.alloc (.cells #[.int .i64 jla, .int .i64 jn, .int .i64 jk, .int .i64 jg, .slice Ac mc cc] 25)
  replace S2 := S2.alloc (.cells #[.int .i64 jla, .int .i64 jn, .int .i64 jk, .int .i64 jg, .slice Ac mc cc] 25)
  replace Vx := Vx.alloc (.cells #[.int .i64 jla, .int .i64 jn, .int .i64 jk, .int .i64 jg, .slice Ac mc cc] 25)
  replace Vy := Vy.alloc (.cells #[.int .i64 jla, .int .i64 jn, .int .i64 jk, .int .i64 jg, .slice Ac mc cc] 25)
  replace Sa := Sa.alloc (.cells #[.int .i64 jla, .int .i64 jn, .int .i64 jk, .int .i64 jg, .slice Ac mc cc] 25)
  replace Va := Va.alloc (.cells #[.int .i64 jla, .int .i64 jn, .int .i64 jk, .int .i64 jg, .slice Ac mc cc] 25)
  replace Sb := Sb.alloc (.cells #[.int .i64 jla, .int .i64 jn, .int .i64 jk, .int .i64 jg, .slice Ac mc cc] 25)
  replace Vb := Vb.alloc (.cells #[.int .i64 jla, .int .i64 jn, .int .i64 jk, .int .i64 jg, .slice Ac mc cc] 25)
  replace Sc := Sc.alloc (.cells #[.int .i64 jla, .int .i64 jn, .int .i64 jk, .int .i64 jg, .slice Ac mc cc] 25)
  replace bb := bb.alloc bb.size (.cells #[.int .i64 jla, .int .i64 jn, .int .i64 jk, .int .i64 jg, .slice Ac mc cc] 25)
  have Vc := Blk.new w5 #[.int .i64 jla, .int .i64 jn, .int .i64 jk, .int .i64 jg, .slice Ac mc cc] 25
  go_wp2_with fail
  clear Vxq0 Vxq1 Vxq2 Vxq3 Vxq4 Vxr0 Vxr1 Vxr2 Vxr3 Vxr4
  clear Vyq0 Vyq1 Vyq2 Vyq3 Vyq4 Vyr0 Vyr1 Vyr2 Vyr3 Vyr4
  generalize (w5.alloc (.cells #[.int .i64 jla, .int .i64 jn, .int .i64 jk, .int .i64 jg, .slice Ac mc cc] 25)) = wd0 at *
  have hC := EPost.eq (fJoin_any la1 n1 k1 g1 A1 m1 c1 l1 la2 n2 k2 g2 A2 m2 c2 l2 wd0 S1 S2) (congrArg (Value.int .i64) hej.out) hyj.out
  refine hC.mono ?_
  clear hC
  rintro e w6 ⟨Ad, md, cd, hmd, rfl, Nd, Bd⟩
  replace S1 := S1.below Bd
  replace S2 := S2.below Bd
  replace Vx := Vx.under Bd
  replace Vy := Vy.under Bd
  replace Sa := Sa.below Bd
  replace Va := Va.under Bd
  replace Sb := Sb.below Bd
  replace Vb := Vb.under Bd
  replace Sc := Sc.below Bd
  replace Vc := Vc.under Bd
  replace bb := bb.trans (Bd.mono bb.size)
  have Sd := Nd.sl
  clear Nd hmd
  try dsimp only at Sd
  try dsimp only
  obtain ⟨Vaq0, Vaq1, Vaq2, Vaq3, Vaq4, Var0, Var1, Var2, Var3, Var4⟩ := Va.five
  have Val := Va.lt
  obtain ⟨Vbq0, Vbq1, Vbq2, Vbq3, Vbq4, Vbr0, Vbr1, Vbr2, Vbr3, Vbr4⟩ := Vb.five
  have Vbl := Vb.lt
  replace S1 := S1.alloc (.cells #[.int .i64 jla, .int .i64 jn, .int .i64 jk, .int .i64 jg, .slice Ad md cd] 25)
  replace S2 := S2.alloc (.cells #[.int .i64 jla, .int .i64 jn, .int .i64 jk, .int .i64 jg, .slice Ad md cd] 25)
  replace Vx := Vx.alloc (.cells #[.int .i64 jla, .int .i64 jn, .int .i64 jk, .int .i64 jg, .slice Ad md cd] 25)
  replace Vy := Vy.alloc (.cells #[.int .i64 jla, .int .i64 jn, .int .i64 jk, .int .i64 jg, .slice Ad md cd] 25)
  replace Sa := Sa.alloc (.cells #[.int .i64 jla, .int .i64 jn, .int .i64 jk, .int .i64 jg, .slice Ad md cd] 25)
  replace Va := Va.alloc (.cells #[.int .i64 jla, .int .i64 jn, .int .i64 jk, .int .i64 jg, .slice Ad md cd] 25)
  replace Sb := Sb.alloc (.cells #[.int .i64 jla, .int .i64 jn, .int .i64 jk, .int .i64 jg, .slice Ad md cd] 25)
  replace Vb := Vb.alloc (.cells #[.int .i64 jla, .int .i64 jn, .int .i64 jk, .int .i64 jg, .slice Ad md cd] 25)
  replace Sc := Sc.alloc (.cells #[.int .i64 jla, .int .i64 jn, .int .i64 jk, .int .i64 jg, .slice Ad md cd] 25)
  replace Vc := Vc.alloc (.cells #[.int .i64 jla, .int .i64 jn, .int .i64 jk, .int .i64 jg, .slice Ad md cd] 25)
  replace Sd := Sd.alloc (.cells #[.int .i64 jla, .int .i64 jn, .int .i64 jk, .int .i64 jg, .slice Ad md cd] 25)
  replace bb := bb.alloc bb.size (.cells #[.int .i64 jla, .int .i64 jn, .int .i64 jk, .int .i64 jg, .slice Ad md cd] 25)
  have Vd := Blk.new w6 #[.int .i64 jla, .int .i64 jn, .int .i64 jk, .int .i64 jg, .slice Ad md cd] 25
  go_wp2_with fail
  clear Vaq0 Vaq1 Vaq2 Vaq3 Vaq4 Var0 Var1 Var2 Var3 Var4
  clear Vbq0 Vbq1 Vbq2 Vbq3 Vbq4 Vbr0 Vbr1 Vbr2 Vbr3 Vbr4
  generalize (w6.alloc (.cells #[.int .i64 jla, .int .i64 jn, .int .i64 jk, .int .i64 jg, .slice Ad md cd] 25)) = we at *
  have hC := fSame_eq ala an ak ag Aa ma ca al ala an ak ag Ab mb cb al we Sa Sb rfl
  refine hC.mono ?_
  clear hC
  rintro e w7 ⟨rfl, b21⟩
  replace S1 := S1.below b21
  replace S2 := S2.below b21
  replace Vx := Vx.under b21
  replace Vy := Vy.under b21
  replace Sa := Sa.below b21
  replace Va := Va.under b21
  replace Sb := Sb.below b21
  replace Vb := Vb.under b21
  replace Sc := Sc.below b21
  replace Vc := Vc.under b21
  replace Sd := Sd.below b21
  replace Vd := Vd.under b21
  replace bb := bb.trans (b21.mono bb.size)
  obtain ⟨Vcq0, Vcq1, Vcq2, Vcq3, Vcq4, Vcr0, Vcr1, Vcr2, Vcr3, Vcr4⟩ := Vc.five
  have Vcl := Vc.lt
  obtain ⟨Vdq0, Vdq1, Vdq2, Vdq3, Vdq4, Vdr0, Vdr1, Vdr2, Vdr3, Vdr4⟩ := Vd.five
  have Vdl := Vd.lt
  go_wp2_with fail
  clear Vcq0 Vcq1 Vcq2 Vcq3 Vcq4 Vcr0 Vcr1 Vcr2 Vcr3 Vcr4
  clear Vdq0 Vdq1 Vdq2 Vdq3 Vdq4 Vdr0 Vdr1 Vdr2 Vdr3 Vdr4
  have hC := fSame_eq jla jn jk jg Ac mc cc jl jla jn jk jg Ad md cd jl w7 Sc Sd rfl
  refine hC.mono ?_
  clear hC
  rintro e w8 ⟨rfl, b22⟩
  replace S1 := S1.below b22
  replace S2 := S2.below b22
  replace Vx := Vx.under b22
  replace Vy := Vy.under b22
  replace Sa := Sa.below b22
  replace Va := Va.under b22
  replace Sb := Sb.below b22
  replace Vb := Vb.under b22
  replace Sc := Sc.below b22
  replace Vc := Vc.under b22
  replace Sd := Sd.below b22
  replace Vd := Vd.under b22
  replace bb := bb.trans (b22.mono bb.size)
  clear Va Vb Vc Vd Sa Sb Sc Sd hya hyj hbc hej
  go_wp2_with fail
  refine wp_region_held_drew (S := fun w' => Below w8.heap.size w8 w') (by kernel_rfl) (Below.refl _ _).drew (fun hHeld => ?_)
  try dsimp only at hHeld
  have bd : Below w8.heap.size w8 w8.drew := (Below.refl w8.heap.size w8).drew
  have Vxd := Vx.drew
  have Vyd := Vy.drew
  have S1d := S1.drew
  have S2d := S2.drew
  have bbd := bb.drew
  generalize w8.drew = wd at *
  try simp only [Act.put, List.setIfInBounds_toArray, List.set_cons_zero, List.set_cons_succ]
  refine wpAnyH_take (i := 0) (v := ?_) (by simp only [List.getElem?_toArray, List.getElem?_cons_zero]; rfl) (by kernel_rfl) (by kernel_rfl) (by kernel_rfl) (by intro _ _ _ h; exact h) (Or.inl ⟨by rfl, ?_⟩) hHeld ?_
  rotate_left 1
  · intro wq hSw
    try dsimp only at hSw
    go_simp
    try (with_reducible rfl)
  try simp only [Act.put, List.setIfInBounds_toArray, List.set_cons_zero, List.set_cons_succ]
  refine wpAnyH_take (i := 1) (v := ?_) (by simp only [List.getElem?_toArray, List.getElem?_cons_succ, List.getElem?_cons_zero]; rfl) (by kernel_rfl) (by kernel_rfl) (by kernel_rfl) (by intro _ _ _ h; exact h) (Or.inl ⟨by rfl, ?_⟩) hHeld ?_
  rotate_left 1
  · intro wq hSw
    try dsimp only at hSw
    go_simp
    try (with_reducible rfl)
  try simp only [Act.put, List.setIfInBounds_toArray, List.set_cons_zero, List.set_cons_succ]
  refine wpAnyH_take (i := 2) (v := ?_) (by simp only [List.getElem?_toArray, List.getElem?_cons_succ, List.getElem?_cons_zero]; rfl) (by kernel_rfl) (by kernel_rfl) (by kernel_rfl) (by intro _ _ _ h; exact h) (Or.inl ⟨by rfl, ?_⟩) hHeld ?_
  rotate_left 1
  · intro wq hSw
    try dsimp only at hSw
    obtain ⟨x0', x1', x2', x3', x4', _⟩ := (Vx.under hSw).five
    go_simp
    try (with_reducible rfl)
  try simp only [Act.put, List.setIfInBounds_toArray, List.set_cons_zero, List.set_cons_succ]
  refine wpAnyH_take (i := 4) (v := ?_) (by simp only [List.getElem?_toArray, List.getElem?_cons_succ, List.getElem?_cons_zero]; rfl) (by kernel_rfl) (by kernel_rfl) (by kernel_rfl) (by intro _ _ _ h; exact h) (Or.inl ⟨by rfl, ?_⟩) hHeld ?_
  rotate_left 1
  · intro wq hSw
    try dsimp only at hSw
    obtain ⟨x0', x1', x2', x3', x4', _⟩ := (Vx.under hSw).five
    go_simp
    try (with_reducible rfl)
  try simp only [Act.put, List.setIfInBounds_toArray, List.set_cons_zero, List.set_cons_succ]
  refine wpAnyH_ready (rs := [3]) (by kernel_rfl) (by simp) ?_
  refine AllReadyH.cons (by simp only [List.getElem?_toArray, List.getElem?_cons_succ, List.getElem?_cons_zero]; rfl) (fun K hK => ?_) AllReadyH.nil
  go_simp
  refine (eCheck_any la1 n1 k1 g1 A1 m1 c1 wd hla1).mono ?_
  rintro e u3 ⟨rfl, bN⟩
  have Bu3 : Below w8.heap.size w8 u3 := bd.trans (bN.mono bd.size)
  replace Vx := Vxd.under bN
  replace Vy := Vyd.under bN
  replace S1 := S1d.below bN
  replace S2 := S2d.below bN
  replace bb := bbd.trans (bN.mono bbd.size)
  clear bN
  go_wp2_with fail
  refine hK.out _ _ (Bu3) (fun _ => wpAnyH_stronger (S' := fun w' => Below u3.heap.size u3 w') (fun w' h => Below.trans Bu3 (h.mono Bu3.size)) _ _ _ _ ?_)
  clear hK K hHeld
  have hHeld := Below.refl u3.heap.size u3
  try simp only [Act.put, List.setIfInBounds_toArray, List.set_cons_zero, List.set_cons_succ]
  refine wpAnyH_ready (rs := [5]) (by kernel_rfl) (by simp) ?_
  refine AllReadyH.cons (by simp only [List.getElem?_toArray, List.getElem?_cons_succ, List.getElem?_cons_zero]; rfl) (fun K hK => ?_) AllReadyH.nil
  go_simp
  refine (fCheck_any la1 n1 k1 g1 A1 m1 c1 u3).mono ?_
  rintro e u5 ⟨rfl, bN⟩
  have Bu5 : Below u3.heap.size u3 u5 := bN
  replace Vx := Vx.under bN
  replace Vy := Vy.under bN
  replace S1 := S1.below bN
  replace S2 := S2.below bN
  replace bb := bb.trans (bN.mono bb.size)
  clear bN
  go_wp2_with fail
  refine hK.out _ _ (Bu5) (fun _ => wpAnyH_stronger (S' := fun w' => Below u5.heap.size u5 w') (fun w' h => Below.trans Bu5 (h.mono Bu5.size)) _ _ _ _ ?_)
  clear hK K hHeld
  have hHeld := Below.refl u5.heap.size u5
  try simp only [Act.put, List.setIfInBounds_toArray, List.set_cons_zero, List.set_cons_succ]
  refine wpAnyH_take (i := 6) (v := ?_) (by simp only [List.getElem?_toArray, List.getElem?_cons_succ, List.getElem?_cons_zero]; rfl) (by kernel_rfl) (by kernel_rfl) (by kernel_rfl) (by intro _ _ _ h; exact h) (Or.inl ⟨by rfl, ?_⟩) hHeld ?_
  rotate_left 1
  · intro wq hSw
    try dsimp only at hSw
    go_simp
    try (with_reducible rfl)
  try simp only [Act.put, List.setIfInBounds_toArray, List.set_cons_zero, List.set_cons_succ]
  refine wpAnyH_take (i := 7) (v := ?_) (by simp only [List.getElem?_toArray, List.getElem?_cons_succ, List.getElem?_cons_zero]; rfl) (by kernel_rfl) (by kernel_rfl) (by kernel_rfl) (by intro _ _ _ h; exact h) (Or.inl ⟨by rfl, ?_⟩) hHeld ?_
  rotate_left 1
  · intro wq hSw
    try dsimp only at hSw
    go_simp
    try (with_reducible rfl)
  try simp only [Act.put, List.setIfInBounds_toArray, List.set_cons_zero, List.set_cons_succ]
  refine wpAnyH_take (i := 8) (v := ?_) (by simp only [List.getElem?_toArray, List.getElem?_cons_succ, List.getElem?_cons_zero]; rfl) (by kernel_rfl) (by kernel_rfl) (by kernel_rfl) (by intro _ _ _ h; exact h) (Or.inl ⟨by rfl, ?_⟩) hHeld ?_
  rotate_left 1
  · intro wq hSw
    try dsimp only at hSw
    go_simp
    try (with_reducible rfl)
  try simp only [Act.put, List.setIfInBounds_toArray, List.set_cons_zero, List.set_cons_succ]
  refine wpAnyH_take (i := 9) (v := ?_) (by simp only [List.getElem?_toArray, List.getElem?_cons_succ, List.getElem?_cons_zero]; rfl) (by kernel_rfl) (by kernel_rfl) (by kernel_rfl) (by intro _ _ _ h; exact h) (Or.inl ⟨by rfl, ?_⟩) hHeld ?_
  rotate_left 1
  · intro wq hSw
    try dsimp only at hSw
    obtain ⟨x0', x1', x2', x3', x4', _⟩ := (Vx.under hSw).five
    go_simp
    try (with_reducible rfl)
  try simp only [Act.put, List.setIfInBounds_toArray, List.set_cons_zero, List.set_cons_succ]
  refine wpAnyH_take (i := 12) (v := ?_) (by simp only [List.getElem?_toArray, List.getElem?_cons_succ, List.getElem?_cons_zero]; rfl) (by kernel_rfl) (by kernel_rfl) (by kernel_rfl) (by intro _ _ _ h; exact h) (Or.inl ⟨by rfl, ?_⟩) hHeld ?_
  rotate_left 1
  · intro wq hSw
    try dsimp only at hSw
    obtain ⟨x0', x1', x2', x3', x4', _⟩ := (Vx.under hSw).five
    go_simp
    try (with_reducible rfl)
  try simp only [Act.put, List.setIfInBounds_toArray, List.set_cons_zero, List.set_cons_succ]
  refine wpAnyH_ready (rs := [10]) (by kernel_rfl) (by simp) ?_
  refine AllReadyH.cons (by simp only [List.getElem?_toArray, List.getElem?_cons_succ, List.getElem?_cons_zero]; rfl) (fun K hK => ?_) AllReadyH.nil
  go_simp
  refine (eBytes_any la1 n1 k1 g1 A1 m1 c1 l1 u5 hla1 S1).mono ?_
  rintro e u10 ⟨AT, nT, cT, rfl, NT, bN⟩
  have Bu10 : Below u5.heap.size u5 u10 := bN
  replace Vx := Vx.under bN
  replace Vy := Vy.under bN
  replace S1 := S1.below bN
  replace S2 := S2.below bN
  replace bb := bb.trans (bN.mono bb.size)
  have T1 := NT.sl
  clear NT
  clear bN
  go_wp2_with fail
  refine hK.out _ _ (Bu10) (fun _ => wpAnyH_stronger (S' := fun w' => Below u10.heap.size u10 w') (fun w' h => Below.trans Bu10 (h.mono Bu10.size)) _ _ _ _ ?_)
  clear hK K hHeld
  have hHeld := Below.refl u10.heap.size u10
  try simp only [Act.put, List.setIfInBounds_toArray, List.set_cons_zero, List.set_cons_succ]
  refine wpAnyH_take (i := 11) (v := ?_) (by simp only [List.getElem?_toArray, List.getElem?_cons_succ, List.getElem?_cons_zero]; rfl) (by kernel_rfl) (by kernel_rfl) (by kernel_rfl) (by intro _ _ _ h; exact h) (Or.inl ⟨by rfl, ?_⟩) hHeld ?_
  rotate_left 1
  · intro wq hSw
    try dsimp only at hSw
    have qs := str_of (T1.below hSw)
    go_simp
    try (with_reducible rfl)
  try simp only [Act.put, List.setIfInBounds_toArray, List.set_cons_zero, List.set_cons_succ]
  refine wpAnyH_ready (rs := [13]) (by kernel_rfl) (by simp) ?_
  refine AllReadyH.cons (by simp only [List.getElem?_toArray, List.getElem?_cons_succ, List.getElem?_cons_zero]; rfl) (fun K hK => ?_) AllReadyH.nil
  go_simp
  refine (fBytes_any la1 n1 k1 g1 A1 m1 c1 l1 u10 S1).mono ?_
  rintro e u13 ⟨AU, nU, cU, rfl, NU, bN⟩
  have Bu13 : Below u10.heap.size u10 u13 := bN
  replace Vx := Vx.under bN
  replace Vy := Vy.under bN
  replace S1 := S1.below bN
  replace S2 := S2.below bN
  replace bb := bb.trans (bN.mono bb.size)
  have T2 := NU.sl
  clear NU
  try replace T1 := T1.below bN
  clear bN
  go_wp2_with fail
  refine hK.out _ _ (Bu13) (fun _ => wpAnyH_stronger (S' := fun w' => Below u13.heap.size u13 w') (fun w' h => Below.trans Bu13 (h.mono Bu13.size)) _ _ _ _ ?_)
  clear hK K hHeld
  have hHeld := Below.refl u13.heap.size u13
  try simp only [Act.put, List.setIfInBounds_toArray, List.set_cons_zero, List.set_cons_succ]
  refine wpAnyH_take (i := 14) (v := ?_) (by simp only [List.getElem?_toArray, List.getElem?_cons_succ, List.getElem?_cons_zero]; rfl) (by kernel_rfl) (by kernel_rfl) (by kernel_rfl) (by intro _ _ _ h; exact h) (Or.inl ⟨by rfl, ?_⟩) hHeld ?_
  rotate_left 1
  · intro wq hSw
    try dsimp only at hSw
    have qs := str_of (T2.below hSw)
    go_simp
    try (with_reducible rfl)
  try simp only [Act.put, List.setIfInBounds_toArray, List.set_cons_zero, List.set_cons_succ]
  refine wpAnyH_take (i := 15) (v := ?_) (by simp only [List.getElem?_toArray, List.getElem?_cons_succ, List.getElem?_cons_zero]; rfl) (by kernel_rfl) (by kernel_rfl) (by kernel_rfl) (by intro _ _ _ h; exact h) (Or.inl ⟨by rfl, ?_⟩) hHeld ?_
  rotate_left 1
  · intro wq hSw
    try dsimp only at hSw
    go_simp
    try (with_reducible rfl)
  try simp only [Act.put, List.setIfInBounds_toArray, List.set_cons_zero, List.set_cons_succ]
  refine wpAnyH_take (i := 16) (v := ?_) (by simp only [List.getElem?_toArray, List.getElem?_cons_succ, List.getElem?_cons_zero]; rfl) (by kernel_rfl) (by kernel_rfl) (by kernel_rfl) (by intro _ _ _ h; exact h) (Or.inl ⟨by rfl, ?_⟩) hHeld ?_
  rotate_left 1
  · intro wq hSw
    try dsimp only at hSw
    go_simp
    try (with_reducible rfl)
  try simp only [Act.put, List.setIfInBounds_toArray, List.set_cons_zero, List.set_cons_succ]
  refine wpAnyH_take (i := 17) (v := ?_) (by simp only [List.getElem?_toArray, List.getElem?_cons_succ, List.getElem?_cons_zero]; rfl) (by kernel_rfl) (by kernel_rfl) (by kernel_rfl) (by intro _ _ _ h; exact h) (Or.inl ⟨by rfl, ?_⟩) hHeld ?_
  rotate_left 1
  · intro wq hSw
    try dsimp only at hSw
    go_simp
    try (with_reducible rfl)
  try simp only [Act.put, List.setIfInBounds_toArray, List.set_cons_zero, List.set_cons_succ]
  refine wpAnyH_take (i := 18) (v := ?_) (by simp only [List.getElem?_toArray, List.getElem?_cons_succ, List.getElem?_cons_zero]; rfl) (by kernel_rfl) (by kernel_rfl) (by kernel_rfl) (by intro _ _ _ h; exact h) (Or.inl ⟨by rfl, ?_⟩) hHeld ?_
  rotate_left 1
  · intro wq hSw
    try dsimp only at hSw
    go_simp
    try (with_reducible rfl)
  try simp only [Act.put, List.setIfInBounds_toArray, List.set_cons_zero, List.set_cons_succ]
  refine wpAnyH_take (i := 19) (v := ?_) (by simp only [List.getElem?_toArray, List.getElem?_cons_succ, List.getElem?_cons_zero]; rfl) (by kernel_rfl) (by kernel_rfl) (by kernel_rfl) (by intro _ _ _ h; exact h) (Or.inl ⟨by rfl, ?_⟩) hHeld ?_
  rotate_left 1
  · intro wq hSw
    try dsimp only at hSw
    go_simp
    try (with_reducible rfl)
  try simp only [Act.put, List.setIfInBounds_toArray, List.set_cons_zero, List.set_cons_succ]
  refine wpAnyH_take (i := 20) (v := ?_) (by simp only [List.getElem?_toArray, List.getElem?_cons_succ, List.getElem?_cons_zero]; rfl) (by kernel_rfl) (by kernel_rfl) (by kernel_rfl) (by intro _ _ _ h; exact h) (Or.inl ⟨by rfl, ?_⟩) hHeld ?_
  rotate_left 1
  · intro wq hSw
    try dsimp only at hSw
    go_simp
    try (with_reducible rfl)
  try simp only [Act.put, List.setIfInBounds_toArray, List.set_cons_zero, List.set_cons_succ]
  refine wpAnyH_take (i := 21) (v := ?_) (by simp only [List.getElem?_toArray, List.getElem?_cons_succ, List.getElem?_cons_zero]; rfl) (by kernel_rfl) (by kernel_rfl) (by kernel_rfl) (by intro _ _ _ h; exact h) (Or.inl ⟨by rfl, ?_⟩) hHeld ?_
  rotate_left 1
  · intro wq hSw
    try dsimp only at hSw
    go_simp
    try (with_reducible rfl)
  try simp only [Act.put, List.setIfInBounds_toArray, List.set_cons_zero, List.set_cons_succ]
  refine wpAnyH_take (i := 22) (v := ?_) (by simp only [List.getElem?_toArray, List.getElem?_cons_succ, List.getElem?_cons_zero]; rfl) (by kernel_rfl) (by kernel_rfl) (by kernel_rfl) (by intro _ _ _ h; exact h) (Or.inl ⟨by rfl, ?_⟩) hHeld ?_
  rotate_left 1
  · intro wq hSw
    try dsimp only at hSw
    go_simp
    try (with_reducible rfl)
  try simp only [Act.put, List.setIfInBounds_toArray, List.set_cons_zero, List.set_cons_succ]
  refine wpAnyH_take (i := 23) (v := ?_) (by simp only [List.getElem?_toArray, List.getElem?_cons_succ, List.getElem?_cons_zero]; rfl) (by kernel_rfl) (by kernel_rfl) (by kernel_rfl) (by intro _ _ _ h; exact h) (Or.inl ⟨by rfl, ?_⟩) hHeld ?_
  rotate_left 1
  · intro wq hSw
    try dsimp only at hSw
    go_simp
    try (with_reducible rfl)
  try simp only [Act.put, List.setIfInBounds_toArray, List.set_cons_zero, List.set_cons_succ]
  refine wpAnyH_take (i := 24) (v := ?_) (by simp only [List.getElem?_toArray, List.getElem?_cons_succ, List.getElem?_cons_zero]; rfl) (by kernel_rfl) (by kernel_rfl) (by kernel_rfl) (by intro _ _ _ h; exact h) (Or.inl ⟨by rfl, ?_⟩) hHeld ?_
  rotate_left 1
  · intro wq hSw
    try dsimp only at hSw
    go_simp
    try (with_reducible rfl)
  try simp only [Act.put, List.setIfInBounds_toArray, List.set_cons_zero, List.set_cons_succ]
  refine wpAnyH_take (i := 25) (v := ?_) (by simp only [List.getElem?_toArray, List.getElem?_cons_succ, List.getElem?_cons_zero]; rfl) (by kernel_rfl) (by kernel_rfl) (by kernel_rfl) (by intro _ _ _ h; exact h) (Or.inl ⟨by rfl, ?_⟩) hHeld ?_
  rotate_left 1
  · intro wq hSw
    try dsimp only at hSw
    go_simp
    try (with_reducible rfl)
  try simp only [Act.put, List.setIfInBounds_toArray, List.set_cons_zero, List.set_cons_succ]
  refine wpAnyH_take (i := 26) (v := ?_) (by simp only [List.getElem?_toArray, List.getElem?_cons_succ, List.getElem?_cons_zero]; rfl) (by kernel_rfl) (by kernel_rfl) (by kernel_rfl) (by intro _ _ _ h; exact h) (Or.inl ⟨by rfl, ?_⟩) hHeld ?_
  rotate_left 1
  · intro wq hSw
    try dsimp only at hSw
    obtain ⟨x0', x1', x2', x3', x4', _⟩ := (Vx.under hSw).five
    go_simp
    try (with_reducible rfl)
  try simp only [Act.put, List.setIfInBounds_toArray, List.set_cons_zero, List.set_cons_succ]
  refine wpAnyH_take (i := 27) (v := ?_) (by simp only [List.getElem?_toArray, List.getElem?_cons_succ, List.getElem?_cons_zero]; rfl) (by kernel_rfl) (by kernel_rfl) (by kernel_rfl) (by intro _ _ _ h; exact h) (Or.inl ⟨by rfl, ?_⟩) hHeld ?_
  rotate_left 1
  · intro wq hSw
    try dsimp only at hSw
    obtain ⟨z0', z1', z2', z3', z4', _⟩ := (Vy.under hSw).five
    go_simp
    try (with_reducible rfl)
  try simp only [Act.put, List.setIfInBounds_toArray, List.set_cons_zero, List.set_cons_succ]
  refine wpAnyH_take (i := 29) (v := ?_) (by simp only [List.getElem?_toArray, List.getElem?_cons_succ, List.getElem?_cons_zero]; rfl) (by kernel_rfl) (by kernel_rfl) (by kernel_rfl) (by intro _ _ _ h; exact h) (Or.inl ⟨by rfl, ?_⟩) hHeld ?_
  rotate_left 1
  · intro wq hSw
    try dsimp only at hSw
    obtain ⟨x0', x1', x2', x3', x4', _⟩ := (Vx.under hSw).five
    go_simp
    try (with_reducible rfl)
  try simp only [Act.put, List.setIfInBounds_toArray, List.set_cons_zero, List.set_cons_succ]
  refine wpAnyH_take (i := 30) (v := ?_) (by simp only [List.getElem?_toArray, List.getElem?_cons_succ, List.getElem?_cons_zero]; rfl) (by kernel_rfl) (by kernel_rfl) (by kernel_rfl) (by intro _ _ _ h; exact h) (Or.inl ⟨by rfl, ?_⟩) hHeld ?_
  rotate_left 1
  · intro wq hSw
    try dsimp only at hSw
    obtain ⟨z0', z1', z2', z3', z4', _⟩ := (Vy.under hSw).five
    go_simp
    try (with_reducible rfl)
  try simp only [Act.put, List.setIfInBounds_toArray, List.set_cons_zero, List.set_cons_succ]
  refine wpAnyH_ready (rs := [28]) (by kernel_rfl) (by simp) ?_
  refine AllReadyH.cons (by simp only [List.getElem?_toArray, List.getElem?_cons_succ, List.getElem?_cons_zero]; rfl) (fun K hK => ?_) AllReadyH.nil
  go_simp
  refine (eJoins_any la1 n1 k1 g1 A1 m1 c1 la2 n2 k2 g2 A2 m2 c2 u13 hla1 hla2).mono ?_
  rintro e u28 ⟨rfl, bN⟩
  have Bu28 : Below u13.heap.size u13 u28 := bN
  replace Vx := Vx.under bN
  replace Vy := Vy.under bN
  replace S1 := S1.below bN
  replace S2 := S2.below bN
  replace bb := bb.trans (bN.mono bb.size)
  clear bN
  go_wp2_with fail
  refine hK.out _ _ (Bu28) (fun _ => wpAnyH_stronger (S' := fun w' => Below u28.heap.size u28 w') (fun w' h => Below.trans Bu28 (h.mono Bu28.size)) _ _ _ _ ?_)
  clear hK K hHeld
  have hHeld := Below.refl u28.heap.size u28
  try simp only [Act.put, List.setIfInBounds_toArray, List.set_cons_zero, List.set_cons_succ]
  refine wpAnyH_ready (rs := [31]) (by kernel_rfl) (by simp) ?_
  refine AllReadyH.cons (by simp only [List.getElem?_toArray, List.getElem?_cons_succ, List.getElem?_cons_zero]; rfl) (fun K hK => ?_) AllReadyH.nil
  go_simp
  refine (fJoins_any la1 n1 k1 g1 A1 m1 c1 la2 n2 k2 g2 A2 m2 c2 u28).mono ?_
  rintro e u31 ⟨rfl, bN⟩
  have Bu31 : Below u28.heap.size u28 u31 := bN
  replace Vx := Vx.under bN
  replace Vy := Vy.under bN
  replace S1 := S1.below bN
  replace S2 := S2.below bN
  replace bb := bb.trans (bN.mono bb.size)
  clear bN
  go_wp2_with fail
  refine hK.out _ _ (Bu31) (fun _ => wpAnyH_stronger (S' := fun w' => Below u31.heap.size u31 w') (fun w' h => Below.trans Bu31 (h.mono Bu31.size)) _ _ _ _ ?_)
  clear hK K hHeld
  have hHeld := Below.refl u31.heap.size u31
  try simp only [Act.put, List.setIfInBounds_toArray, List.set_cons_zero, List.set_cons_succ]
  refine wpAnyH_take (i := 32) (v := ?_) (by simp only [List.getElem?_toArray, List.getElem?_cons_succ, List.getElem?_cons_zero]; rfl) (by kernel_rfl) (by kernel_rfl) (by kernel_rfl) (by intro _ _ _ h; exact h) (Or.inl ⟨by rfl, ?_⟩) hHeld ?_
  rotate_left 1
  · intro wq hSw
    try dsimp only at hSw
    go_simp
    try (with_reducible rfl)
  try simp only [Act.put, List.setIfInBounds_toArray, List.set_cons_zero, List.set_cons_succ]
  refine wpAnyH_take (i := 33) (v := ?_) (by simp only [List.getElem?_toArray, List.getElem?_cons_succ, List.getElem?_cons_zero]; rfl) (by kernel_rfl) (by kernel_rfl) (by kernel_rfl) (by intro _ _ _ h; exact h) (Or.inl ⟨by rfl, ?_⟩) hHeld ?_
  rotate_left 1
  · intro wq hSw
    try dsimp only at hSw
    go_simp
    try (with_reducible rfl)
  try simp only [Act.put, List.setIfInBounds_toArray, List.set_cons_zero, List.set_cons_succ]
  refine wpAnyH_take (i := 34) (v := ?_) (by simp only [List.getElem?_toArray, List.getElem?_cons_succ, List.getElem?_cons_zero]; rfl) (by kernel_rfl) (by kernel_rfl) (by kernel_rfl) (by intro _ _ _ h; exact h) (Or.inl ⟨by rfl, ?_⟩) hHeld ?_
  rotate_left 1
  · intro wq hSw
    try dsimp only at hSw
    go_simp
    try (with_reducible rfl)
  try simp only [Act.put, List.setIfInBounds_toArray, List.set_cons_zero, List.set_cons_succ]
  refine wpAnyH_take (i := 35) (v := ?_) (by simp only [List.getElem?_toArray, List.getElem?_cons_succ, List.getElem?_cons_zero]; rfl) (by kernel_rfl) (by kernel_rfl) (by kernel_rfl) (by intro _ _ _ h; exact h) (Or.inl ⟨by rfl, ?_⟩) hHeld ?_
  rotate_left 1
  · intro wq hSw
    try dsimp only at hSw
    go_simp
    try (with_reducible rfl)
  try simp only [Act.put, List.setIfInBounds_toArray, List.set_cons_zero, List.set_cons_succ]
  refine wpAnyH_take (i := 36) (v := ?_) (by simp only [List.getElem?_toArray, List.getElem?_cons_succ, List.getElem?_cons_zero]; rfl) (by kernel_rfl) (by kernel_rfl) (by kernel_rfl) (by intro _ _ _ h; exact h) (Or.inl ⟨by rfl, ?_⟩) hHeld ?_
  rotate_left 1
  · intro wq hSw
    try dsimp only at hSw
    go_simp
    try (with_reducible rfl)
  try simp only [Act.put, List.setIfInBounds_toArray, List.set_cons_zero, List.set_cons_succ]
  refine wpAnyH_take (i := 37) (v := ?_) (by simp only [List.getElem?_toArray, List.getElem?_cons_succ, List.getElem?_cons_zero]; rfl) (by kernel_rfl) (by kernel_rfl) (by kernel_rfl) (by intro _ _ _ h; exact h) (Or.inl ⟨by rfl, ?_⟩) hHeld ?_
  rotate_left 1
  · intro wq hSw
    try dsimp only at hSw
    go_simp
    try (with_reducible rfl)
  try simp only [Act.put, List.setIfInBounds_toArray, List.set_cons_zero, List.set_cons_succ]
  refine wpAnyH_take (i := 38) (v := ?_) (by simp only [List.getElem?_toArray, List.getElem?_cons_succ, List.getElem?_cons_zero]; rfl) (by kernel_rfl) (by kernel_rfl) (by kernel_rfl) (by intro _ _ _ h; exact h) (Or.inl ⟨by rfl, ?_⟩) hHeld ?_
  rotate_left 1
  · intro wq hSw
    try dsimp only at hSw
    go_simp
    try (with_reducible rfl)
  try simp only [Act.put, List.setIfInBounds_toArray, List.set_cons_zero, List.set_cons_succ]
  refine wpAnyH_take (i := 39) (v := ?_) (by simp only [List.getElem?_toArray, List.getElem?_cons_succ, List.getElem?_cons_zero]; rfl) (by kernel_rfl) (by kernel_rfl) (by kernel_rfl) (by intro _ _ _ h; exact h) (Or.inl ⟨by rfl, ?_⟩) hHeld ?_
  rotate_left 1
  · intro wq hSw
    try dsimp only at hSw
    go_simp
    try (with_reducible rfl)
  try simp only [Act.put, List.setIfInBounds_toArray, List.set_cons_zero, List.set_cons_succ]
  refine wpAnyH_done (by kernel_rfl) ?_ _
  go_wp2
  go_ret
  exact ⟨rfl, bb⟩

theorem ExtentTells_walk (a0_0 : Int) (a0_1 : Int) (a0_2 : Int) (a0_3 : Int) (a0_4 : Option Addr) (len0_4 cap0_4 : Nat) (z0_4 : List Int) (a1_0 : Int) (a1_1 : Int) (a1_2 : Int) (a1_3 : Int) (a1_4 : Option Addr) (len1_4 cap1_4 : Nat) (z1_4 : List Int) (a2 : Int) (a3 : Int) (w : World) (w0_0 : (Lit.int .i64 a0_0).wf = true) (w0_1 : (Lit.int .i64 a0_1).wf = true) (w0_2 : (Lit.int .i64 a0_2).wf = true) (w0_3 : (Lit.int .i64 a0_3).wf = true) (w0_4 : IsRow .u8 w a0_4 len0_4 cap0_4 z0_4) (w1_0 : (Lit.int .i64 a1_0).wf = true) (w1_1 : (Lit.int .i64 a1_1).wf = true) (w1_2 : (Lit.int .i64 a1_2).wf = true) (w1_3 : (Lit.int .i64 a1_3).wf = true) (w1_4 : IsRow .u8 w a1_4 len1_4 cap1_4 z1_4) (w2 : (Lit.int .i64 a2).wf = true) (w3 : (Lit.int .i64 a3).wf = true) :
    Calls Try.prog 4 #[.agg #[.int .i64 a0_0, .int .i64 a0_1, .int .i64 a0_2, .int .i64 a0_3, .slice a0_4 len0_4 cap0_4], .agg #[.int .i64 a1_0, .int .i64 a1_1, .int .i64 a1_2, .int .i64 a1_3, .slice a1_4 len1_4 cap1_4], .int .i64 a2, .int .i64 a3] w (AwakePost w) := by
  obtain ⟨l1, h1⟩ := w0_4.bytes
  obtain ⟨l2, h2⟩ := w1_4.bytes
  exact tells_core a0_0 a0_1 a0_2 a0_3 a0_4 len0_4 cap0_4 l1 a1_0 a1_1 a1_2 a1_3 a1_4 len1_4 cap1_4 l2 a2 a3 w (ext_wf w0_0) (ext_wf w1_0) h1 h2
end Go.Proofs.Ytfblbdkkmfnhmaa
