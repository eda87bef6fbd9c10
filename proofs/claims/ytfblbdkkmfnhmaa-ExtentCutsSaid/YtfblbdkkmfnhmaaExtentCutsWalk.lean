/-
  ExtentCuts: the walk (written by gen_extcuts.py).
-/
import Derived.Test.YtfblbdkkmfnhmaaExtAwake
import Derived.Test.YtfblbdkkmfnhmaaArgs
namespace Go.Proofs.Ytfblbdkkmfnhmaa
open Go.RowKit Go.Wag
theorem cut_all {x : Xp} (h : x.ok = true) : xcut x 0 64 = some x := by
  obtain ⟨y1, y2, y3, _⟩ := Xp.all h
  have e1 : xlo x 0 = x.la := by unfold xlo; omega
  have e2 : xhi x 0 64 = x.la + x.n := by unfold xhi; omega
  rw [xcut_yes ⟨h, by omega, by omega, by omega, by omega, by rw [e1, e2]; omega⟩, e1, e2, xpart_all h]
theorem cuts_whole {x : Xp} (h : x.ok = true) : ∃ N : Nat, (xbytes x).length = N ∧ wrap64 (32 * x.n) = (N : Int) := by
  have hl := xby_length h
  obtain ⟨y1, y2, y3, _⟩ := Xp.all h
  refine ⟨_, rfl, ?_⟩
  rw [xbytes_yes h, hl]
  unfold wrap64
  omega
theorem cut_la {x y : Xp} {a q : Int} (h : xcut x a q = some y) : y.la ≤ 9223372036854775807 := by
  have := Xp.all (xcut_ok h)
  omega
theorem cuts_nums {x y : Xp} {a q : Int} (h : xcut x a q = some y) {N : Nat} (hN : (xbytes x).length = N) : ∃ (M at0 e0 : Nat) (d e1 e2 : Int), (xbytes y).length = M ∧ wrap64 (y.la - x.la) = d ∧ wrap64 (32 * d) = (at0 : Int) ∧ wrap64 ((at0 : Int) + (M : Int)) = (e0 : Int) ∧ e0 ≤ N ∧ at0 ≤ e0 ∧ wrap64 (32 * y.n) = (M : Int) ∧ wrap64 (y.la + y.n) = e1 ∧ wrap64 (a + q) = e2 ∧ e1 ≤ e2 ∧ a ≤ y.la ∧ y.k = x.k ∧ y.g = x.g ∧ ((xbytes x).take e0).drop at0 = xbytes y := by
  have hy := xcut_ok h
  obtain ⟨hx, h1, h2, h3, h4, hlt, rfl⟩ := xcut_some h
  obtain ⟨y1, y2, y3, _⟩ := Xp.all hx
  have lx := xby_length hx
  have ly := xby_length hy
  rw [xbytes_yes hx] at hN ⊢
  rw [xbytes_yes hy]
  have b1 : x.la ≤ xlo x a := by unfold xlo; omega
  have b2 : xhi x a q ≤ x.la + x.n := by unfold xhi; omega
  have b3 : a ≤ xlo x a := by unfold xlo; omega
  have b4 : xhi x a q ≤ a + q := by unfold xhi; omega
  have hpart := xby_part hx b1 hlt b2
  generalize xlo x a = s at *
  generalize xhi x a q = e at *
  have ly' : ((xby (xpart x s e)).length : Int) = 32 * (e - s) := ly
  refine ⟨(xby (xpart x s e)).length, (32 * (s - x.la)).toNat, (32 * (e - x.la)).toNat, s - x.la, e, a + q, rfl, ?_, ?_, ?_, ?_, ?_, ?_, ?_, ?_, b4, b3, rfl, rfl, hpart.symm⟩
  · show wrap64 (s - x.la) = _
    unfold wrap64
    omega
  · unfold wrap64
    omega
  · unfold wrap64
    omega
  · omega
  · omega
  · show wrap64 (32 * (e - s)) = _
    unfold wrap64
    omega
  · show wrap64 (s + (e - s)) = _
    unfold wrap64
    omega
  · unfold wrap64
    omega
set_option linter.unusedVariables false
set_option linter.unusedSimpArgs false
set_option maxRecDepth 100000 in
set_option maxHeartbeats 8000000 in
theorem cuts_core (la n k g : Int) (A : Option Addr) (m c : Nat) (l : List UInt8) (a q : Int) (w : World) (hla : la ≤ 9223372036854775807) (h : Sl w A m c (l.map v8)) :
    Calls Try.prog 9 #[.agg #[.int .i64 la, .int .i64 n, .int .i64 k, .int .i64 g, .slice A m c], .int .i64 a, .int .i64 q] w (AwakePost w) := by
  have hl : l.length = m := h.len8
  by_cases hm3 : (m : Int) > 3000
  · skip
    have bb := Below.refl w.heap.size w
    have S0 := h
    go_enter Try.func9, Try.ntmps9
    replace S0 := S0.alloc (.cells #[.int .i64 la, .int .i64 n, .int .i64 k, .int .i64 g, .slice A m c] 25)
    replace bb := bb.alloc bb.size (.cells #[.int .i64 la, .int .i64 n, .int .i64 k, .int .i64 g, .slice A m c] 25)
    have V0 := Blk.new w #[.int .i64 la, .int .i64 n, .int .i64 k, .int .i64 g, .slice A m c] 25
    go_wp2_with fail
    generalize (w.alloc (.cells #[.int .i64 la, .int .i64 n, .int .i64 k, .int .i64 g, .slice A m c] 25)) = wa at *
    have hC := awake7_any wa
    refine hC.mono ?_
    clear hC
    rintro e w1 ⟨rfl, b1⟩
    replace S0 := S0.below b1
    replace V0 := V0.under b1
    replace bb := bb.trans (b1.mono bb.size)
    obtain ⟨V0q0, V0q1, V0q2, V0q3, V0q4, V0r0, V0r1, V0r2, V0r3, V0r4⟩ := V0.five
    have V0l := V0.lt
    go_wp2
    go_ret
    exact ⟨rfl, bb⟩
  cases r1 : xchk la n k g m
  · skip
    have bb := Below.refl w.heap.size w
    have S0 := h
    go_enter Try.func9, Try.ntmps9
    replace S0 := S0.alloc (.cells #[.int .i64 la, .int .i64 n, .int .i64 k, .int .i64 g, .slice A m c] 25)
    replace bb := bb.alloc bb.size (.cells #[.int .i64 la, .int .i64 n, .int .i64 k, .int .i64 g, .slice A m c] 25)
    have V0 := Blk.new w #[.int .i64 la, .int .i64 n, .int .i64 k, .int .i64 g, .slice A m c] 25
    go_wp2_with fail
    generalize (w.alloc (.cells #[.int .i64 la, .int .i64 n, .int .i64 k, .int .i64 g, .slice A m c] 25)) = wa at *
    have hC := awake7_any wa
    refine hC.mono ?_
    clear hC
    rintro e w1 ⟨rfl, b1⟩
    replace S0 := S0.below b1
    replace V0 := V0.under b1
    replace bb := bb.trans (b1.mono bb.size)
    obtain ⟨V0q0, V0q1, V0q2, V0q3, V0q4, V0r0, V0r1, V0r2, V0r3, V0r4⟩ := V0.five
    have V0l := V0.lt
    go_wp2_with fail
    clear V0q0 V0q1 V0q2 V0q3 V0q4 V0r0 V0r1 V0r2 V0r3 V0r4
    have hC := eCheck_any la n k g A m c w1 hla
    refine hC.mono ?_
    clear hC
    rintro e w2 ⟨rfl, b2⟩
    replace S0 := S0.below b2
    replace V0 := V0.under b2
    replace bb := bb.trans (b2.mono bb.size)
    rw [r1]
    obtain ⟨V0q0, V0q1, V0q2, V0q3, V0q4, V0r0, V0r1, V0r2, V0r3, V0r4⟩ := V0.five
    have V0l := V0.lt
    go_wp2
    go_ret
    exact ⟨rfl, bb⟩
  have hok : (⟨la, n, k, g, l⟩ : Xp).ok = true := by unfold Xp.ok; rw [hl]; exact r1
  have f1 := Lib.hid (cut_all hok)
  obtain ⟨N, hN, hN2⟩ := cuts_whole hok
  dsimp only at hN2
  replace hN := Lib.hid hN
  cases hc : xcut ⟨la, n, k, g, l⟩ a q with
  | none =>
    have bb := Below.refl w.heap.size w
    have S0 := h
    go_enter Try.func9, Try.ntmps9
    replace S0 := S0.alloc (.cells #[.int .i64 la, .int .i64 n, .int .i64 k, .int .i64 g, .slice A m c] 25)
    replace bb := bb.alloc bb.size (.cells #[.int .i64 la, .int .i64 n, .int .i64 k, .int .i64 g, .slice A m c] 25)
    have V0 := Blk.new w #[.int .i64 la, .int .i64 n, .int .i64 k, .int .i64 g, .slice A m c] 25
    go_wp2_with fail
    generalize (w.alloc (.cells #[.int .i64 la, .int .i64 n, .int .i64 k, .int .i64 g, .slice A m c] 25)) = wa at *
    have hC := awake7_any wa
    refine hC.mono ?_
    clear hC
    rintro e w1 ⟨rfl, b1⟩
    replace S0 := S0.below b1
    replace V0 := V0.under b1
    replace bb := bb.trans (b1.mono bb.size)
    obtain ⟨V0q0, V0q1, V0q2, V0q3, V0q4, V0r0, V0r1, V0r2, V0r3, V0r4⟩ := V0.five
    have V0l := V0.lt
    go_wp2_with fail
    clear V0q0 V0q1 V0q2 V0q3 V0q4 V0r0 V0r1 V0r2 V0r3 V0r4
    have hC := eCheck_any la n k g A m c w1 hla
    refine hC.mono ?_
    clear hC
    rintro e w2 ⟨rfl, b2⟩
    replace S0 := S0.below b2
    replace V0 := V0.under b2
    replace bb := bb.trans (b2.mono bb.size)
    rw [r1]
    obtain ⟨V0q0, V0q1, V0q2, V0q3, V0q4, V0r0, V0r1, V0r2, V0r3, V0r4⟩ := V0.five
    have V0l := V0.lt
    go_wp2_with fail
    clear V0q0 V0q1 V0q2 V0q3 V0q4 V0r0 V0r1 V0r2 V0r3 V0r4
    have hC := eCut_ok la n k g A m c l 0 64 w2 hla S0 f1.out
    refine hC.mono ?_
    clear hC
    rintro e w3 ⟨Aa, ma, ca, hma, rfl, Na, Ba⟩
    replace S0 := S0.below Ba
    replace V0 := V0.under Ba
    replace bb := bb.trans (Ba.mono bb.size)
    have Sa := Na.sl
    clear Na hma
    try dsimp only at Sa
    try dsimp only
    obtain ⟨V0q0, V0q1, V0q2, V0q3, V0q4, V0r0, V0r1, V0r2, V0r3, V0r4⟩ := V0.five
    have V0l := V0.lt
    replace S0 := S0.alloc (.cells #[.int .i64 la, .int .i64 n, .int .i64 k, .int .i64 g, .slice Aa ma ca] 25)
    replace V0 := V0.alloc (.cells #[.int .i64 la, .int .i64 n, .int .i64 k, .int .i64 g, .slice Aa ma ca] 25)
    replace Sa := Sa.alloc (.cells #[.int .i64 la, .int .i64 n, .int .i64 k, .int .i64 g, .slice Aa ma ca] 25)
    replace bb := bb.alloc bb.size (.cells #[.int .i64 la, .int .i64 n, .int .i64 k, .int .i64 g, .slice Aa ma ca] 25)
    have Va := Blk.new w3 #[.int .i64 la, .int .i64 n, .int .i64 k, .int .i64 g, .slice Aa ma ca] 25
    go_wp2_with fail
    clear V0q0 V0q1 V0q2 V0q3 V0q4 V0r0 V0r1 V0r2 V0r3 V0r4
    generalize (w3.alloc (.cells #[.int .i64 la, .int .i64 n, .int .i64 k, .int .i64 g, .slice Aa ma ca] 25)) = wb at *
    have hC := eCut_no la n k g A m c l a q wb hla S0 hc
    refine hC.mono ?_
    clear hC
    rintro e w4 ⟨Ab, mb, cb, hmb, rfl, Nb, Bb⟩
    replace S0 := S0.below Bb
    replace V0 := V0.under Bb
    replace Sa := Sa.below Bb
    replace Va := Va.under Bb
    replace bb := bb.trans (Bb.mono bb.size)
    obtain rfl : mb = 0 := hmb.out
    have Sb := Nb.sl
    clear Nb
    try dsimp only [x0]
    obtain ⟨V0q0, V0q1, V0q2, V0q3, V0q4, V0r0, V0r1, V0r2, V0r3, V0r4⟩ := V0.five
    have V0l := V0.lt
    replace S0 := S0.alloc (.cells #[.int .i64 0, .int .i64 0, .int .i64 0, .int .i64 0, .slice Ab 0 cb] 25)
    replace V0 := V0.alloc (.cells #[.int .i64 0, .int .i64 0, .int .i64 0, .int .i64 0, .slice Ab 0 cb] 25)
    replace Sa := Sa.alloc (.cells #[.int .i64 0, .int .i64 0, .int .i64 0, .int .i64 0, .slice Ab 0 cb] 25)
    replace Va := Va.alloc (.cells #[.int .i64 0, .int .i64 0, .int .i64 0, .int .i64 0, .slice Ab 0 cb] 25)
    replace Sb := Sb.alloc (.cells #[.int .i64 0, .int .i64 0, .int .i64 0, .int .i64 0, .slice Ab 0 cb] 25)
    replace bb := bb.alloc bb.size (.cells #[.int .i64 0, .int .i64 0, .int .i64 0, .int .i64 0, .slice Ab 0 cb] 25)
    have Vb := Blk.new w4 #[.int .i64 0, .int .i64 0, .int .i64 0, .int .i64 0, .slice Ab 0 cb] 25
    go_wp2_with fail
    clear V0q0 V0q1 V0q2 V0q3 V0q4 V0r0 V0r1 V0r2 V0r3 V0r4
    generalize (w4.alloc (.cells #[.int .i64 0, .int .i64 0, .int .i64 0, .int .i64 0, .slice Ab 0 cb] 25)) = wc at *
    have hC := eBytes_any la n k g A m c l wc hla S0
    refine hC.mono ?_
    clear hC
    rintro e w5 ⟨Ac, nc, cc, rfl, Nc, Bc⟩
    replace S0 := S0.below Bc
    replace V0 := V0.under Bc
    replace Sa := Sa.below Bc
    replace Va := Va.under Bc
    replace Sb := Sb.below Bc
    replace Vb := Vb.under Bc
    replace bb := bb.trans (Bc.mono bb.size)
    obtain rfl : N = nc := by have h1 := Nc.1; rw [List.length_map] at h1; have h2 := hN.out; omega
    clear Nc
    obtain ⟨Vbq0, Vbq1, Vbq2, Vbq3, Vbq4, Vbr0, Vbr1, Vbr2, Vbr3, Vbr4⟩ := Vb.five
    have Vbl := Vb.lt
    go_wp2_with fail
    clear Vbq0 Vbq1 Vbq2 Vbq3 Vbq4 Vbr0 Vbr1 Vbr2 Vbr3 Vbr4
    have hC := eBytes_any 0 0 0 0 Ab 0 cb [] w5 (by decide) Sb
    refine hC.mono ?_
    clear hC
    rintro e w6 ⟨Ad, nd, cd, rfl, Nd, Bd⟩
    replace S0 := S0.below Bd
    replace V0 := V0.under Bd
    replace Sa := Sa.below Bd
    replace Va := Va.under Bd
    replace Sb := Sb.below Bd
    replace Vb := Vb.under Bd
    replace bb := bb.trans (Bd.mono bb.size)
    obtain rfl : 0 = nd := by have h1 := Nd.1; rw [List.length_map] at h1; have h2 : (xbytes ⟨0, 0, 0, 0, []⟩).length = 0 := rfl; omega
    clear Nd
    obtain ⟨Vaq0, Vaq1, Vaq2, Vaq3, Vaq4, Var0, Var1, Var2, Var3, Var4⟩ := Va.five
    have Val := Va.lt
    obtain ⟨V0q0, V0q1, V0q2, V0q3, V0q4, V0r0, V0r1, V0r2, V0r3, V0r4⟩ := V0.five
    have V0l := V0.lt
    have e1 := str_of Sa
    have e2 := str_of S0
    go_wp2
    go_ret
    exact ⟨rfl, bb⟩
  | some y =>
    obtain ⟨M, at0, e0, d, e1, e2, hM, t1, t2, t3, t4, t5, t6, t7, t8, t9, t10, t11, t12, t13⟩ := cuts_nums hc hN.out
    obtain ⟨bla, bn, bk, bg, bl⟩ := y
    dsimp only at t1 t6 t7 t10 t11 t12
    replace t11 := t11.symm
    replace t12 := t12.symm
    subst t11 t12
    replace hc := Lib.hid hc
    replace hM := Lib.hid hM
    replace t13 := Lib.hid t13
    have hyok : bla ≤ 9223372036854775807 := cut_la hc.out
    have t3' : IntKind.i64.wrap ((at0 : Int) + (M : Int)) = (e0 : Int) := (IntWalk.i64_left _).trans t3
    have t7' : IntKind.i64.wrap (bla + bn) = e1 := (IntWalk.i64_left _).trans t7
    have t8' : IntKind.i64.wrap (a + q) = e2 := (IntWalk.i64_left _).trans t8
    have g1 : bla ≥ a := t10
    have g2 : e1 ≤ e2 := t9
    have g3 : ¬ (at0 : Int) < 0 := Int.not_lt.2 (Int.natCast_nonneg _)
    have g4 : ¬ (e0 : Int) > (N : Int) := Int.not_lt.2 (Int.ofNat_le.2 t4)
    have bb := Below.refl w.heap.size w
    have S0 := h
    go_enter Try.func9, Try.ntmps9
    replace S0 := S0.alloc (.cells #[.int .i64 la, .int .i64 n, .int .i64 k, .int .i64 g, .slice A m c] 25)
    replace bb := bb.alloc bb.size (.cells #[.int .i64 la, .int .i64 n, .int .i64 k, .int .i64 g, .slice A m c] 25)
    have V0 := Blk.new w #[.int .i64 la, .int .i64 n, .int .i64 k, .int .i64 g, .slice A m c] 25
    go_wp2_with fail
    generalize (w.alloc (.cells #[.int .i64 la, .int .i64 n, .int .i64 k, .int .i64 g, .slice A m c] 25)) = wa at *
    have hC := awake7_any wa
    refine hC.mono ?_
    clear hC
    rintro e w1 ⟨rfl, b1⟩
    replace S0 := S0.below b1
    replace V0 := V0.under b1
    replace bb := bb.trans (b1.mono bb.size)
    obtain ⟨V0q0, V0q1, V0q2, V0q3, V0q4, V0r0, V0r1, V0r2, V0r3, V0r4⟩ := V0.five
    have V0l := V0.lt
    go_wp2_with fail
    clear V0q0 V0q1 V0q2 V0q3 V0q4 V0r0 V0r1 V0r2 V0r3 V0r4
    have hC := eCheck_any la n k g A m c w1 hla
    refine hC.mono ?_
    clear hC
    rintro e w2 ⟨rfl, b2⟩
    replace S0 := S0.below b2
    replace V0 := V0.under b2
    replace bb := bb.trans (b2.mono bb.size)
    rw [r1]
    obtain ⟨V0q0, V0q1, V0q2, V0q3, V0q4, V0r0, V0r1, V0r2, V0r3, V0r4⟩ := V0.five
    have V0l := V0.lt
    go_wp2_with fail
    clear V0q0 V0q1 V0q2 V0q3 V0q4 V0r0 V0r1 V0r2 V0r3 V0r4
    have hC := eCut_ok la n k g A m c l 0 64 w2 hla S0 f1.out
    refine hC.mono ?_
    clear hC
    rintro e w3 ⟨Aa, ma, ca, hma, rfl, Na, Ba⟩
    replace S0 := S0.below Ba
    replace V0 := V0.under Ba
    replace bb := bb.trans (Ba.mono bb.size)
    have Sa := Na.sl
    clear Na hma
    try dsimp only at Sa
    try dsimp only
    obtain ⟨V0q0, V0q1, V0q2, V0q3, V0q4, V0r0, V0r1, V0r2, V0r3, V0r4⟩ := V0.five
    have V0l := V0.lt
    replace S0 := S0.alloc (.cells #[.int .i64 la, .int .i64 n, .int .i64 k, .int .i64 g, .slice Aa ma ca] 25)
    replace V0 := V0.alloc (.cells #[.int .i64 la, .int .i64 n, .int .i64 k, .int .i64 g, .slice Aa ma ca] 25)
    replace Sa := Sa.alloc (.cells #[.int .i64 la, .int .i64 n, .int .i64 k, .int .i64 g, .slice Aa ma ca] 25)
    replace bb := bb.alloc bb.size (.cells #[.int .i64 la, .int .i64 n, .int .i64 k, .int .i64 g, .slice Aa ma ca] 25)
    have Va := Blk.new w3 #[.int .i64 la, .int .i64 n, .int .i64 k, .int .i64 g, .slice Aa ma ca] 25
    go_wp2_with fail
    clear V0q0 V0q1 V0q2 V0q3 V0q4 V0r0 V0r1 V0r2 V0r3 V0r4
    generalize (w3.alloc (.cells #[.int .i64 la, .int .i64 n, .int .i64 k, .int .i64 g, .slice Aa ma ca] 25)) = wb at *
    have hC := eCut_ok la n k g A m c l a q wb hla S0 hc.out
    refine hC.mono ?_
    clear hC
    rintro e w4 ⟨Ab, mb, cb, hmb, rfl, Nb, Bb⟩
    replace S0 := S0.below Bb
    replace V0 := V0.under Bb
    replace Sa := Sa.below Bb
    replace Va := Va.under Bb
    replace bb := bb.trans (Bb.mono bb.size)
    have Sb := Nb.sl
    clear Nb hmb
    try dsimp only at Sb
    try dsimp only
    obtain ⟨V0q0, V0q1, V0q2, V0q3, V0q4, V0r0, V0r1, V0r2, V0r3, V0r4⟩ := V0.five
    have V0l := V0.lt
    replace S0 := S0.alloc (.cells #[.int .i64 bla, .int .i64 bn, .int .i64 k, .int .i64 g, .slice Ab mb cb] 25)
    replace V0 := V0.alloc (.cells #[.int .i64 bla, .int .i64 bn, .int .i64 k, .int .i64 g, .slice Ab mb cb] 25)
    replace Sa := Sa.alloc (.cells #[.int .i64 bla, .int .i64 bn, .int .i64 k, .int .i64 g, .slice Ab mb cb] 25)
    replace Va := Va.alloc (.cells #[.int .i64 bla, .int .i64 bn, .int .i64 k, .int .i64 g, .slice Ab mb cb] 25)
    replace Sb := Sb.alloc (.cells #[.int .i64 bla, .int .i64 bn, .int .i64 k, .int .i64 g, .slice Ab mb cb] 25)
    replace bb := bb.alloc bb.size (.cells #[.int .i64 bla, .int .i64 bn, .int .i64 k, .int .i64 g, .slice Ab mb cb] 25)
    have Vb := Blk.new w4 #[.int .i64 bla, .int .i64 bn, .int .i64 k, .int .i64 g, .slice Ab mb cb] 25
    go_wp2_with fail
    clear V0q0 V0q1 V0q2 V0q3 V0q4 V0r0 V0r1 V0r2 V0r3 V0r4
    generalize (w4.alloc (.cells #[.int .i64 bla, .int .i64 bn, .int .i64 k, .int .i64 g, .slice Ab mb cb] 25)) = wc at *
    have hC := eBytes_any la n k g A m c l wc hla S0
    refine hC.mono ?_
    clear hC
    rintro e w5 ⟨Ac, nc, cc, rfl, Nc, Bc⟩
    replace S0 := S0.below Bc
    replace V0 := V0.under Bc
    replace Sa := Sa.below Bc
    replace Va := Va.under Bc
    replace Sb := Sb.below Bc
    replace Vb := Vb.under Bc
    replace bb := bb.trans (Bc.mono bb.size)
    obtain rfl : N = nc := by have h1 := Nc.1; rw [List.length_map] at h1; have h2 := hN.out; omega
    have Sc := Nc.sl
    clear Nc
    obtain ⟨Vbq0, Vbq1, Vbq2, Vbq3, Vbq4, Vbr0, Vbr1, Vbr2, Vbr3, Vbr4⟩ := Vb.five
    have Vbl := Vb.lt
    go_wp2_with fail
    clear Vbq0 Vbq1 Vbq2 Vbq3 Vbq4 Vbr0 Vbr1 Vbr2 Vbr3 Vbr4
    have hC := eBytes_any bla bn k g Ab mb cb bl w5 hyok Sb
    refine hC.mono ?_
    clear hC
    rintro e w6 ⟨Ad, nd, cd, rfl, Nd, Bd⟩
    replace S0 := S0.below Bd
    replace V0 := V0.under Bd
    replace Sa := Sa.below Bd
    replace Va := Va.under Bd
    replace Sb := Sb.below Bd
    replace Vb := Vb.under Bd
    replace Sc := Sc.below Bd
    replace bb := bb.trans (Bd.mono bb.size)
    obtain rfl : M = nd := by have h1 := Nd.1; rw [List.length_map] at h1; have h2 := hM.out; omega
    have Sd := Nd.sl
    clear Nd
    obtain ⟨Vaq0, Vaq1, Vaq2, Vaq3, Vaq4, Var0, Var1, Var2, Var3, Var4⟩ := Va.five
    have Val := Va.lt
    obtain ⟨V0q0, V0q1, V0q2, V0q3, V0q4, V0r0, V0r1, V0r2, V0r3, V0r4⟩ := V0.five
    have V0l := V0.lt
    obtain ⟨Vbq0, Vbq1, Vbq2, Vbq3, Vbq4, Vbr0, Vbr1, Vbr2, Vbr3, Vbr4⟩ := Vb.five
    have Vbl := Vb.lt
    have z1 := str_of Sa
    have z2 := str_of S0
    have hcapc := Sc.cap
    have hcut := fun W => run_cut2 (P := Try.prog) 23 5 un22 el22 sz5 Ac N cc .i64 .i64 (at0 : Int) (e0 : Int) at0 e0 rfl rfl t5 (Nat.le_trans t4 hcapc) W
    have Se := Sc.cut t5 t4
    rw [← List.map_take, ← List.map_drop, t13.out] at Se
    have z3 := str_of Sd
    have z4 := str_of Se
    go_wp2_with fail
    clear z1 z2 z3 z4
    refine wp_region_held_drew (S := fun w' => Below w6.heap.size w6 w') (by kernel_rfl) (Below.refl _ _).drew (fun hHeld => ?_)
    try dsimp only at hHeld
    have bd : Below w6.heap.size w6 w6.drew := (Below.refl w6.heap.size w6).drew
    generalize w6.drew = wd at *
    try simp only [Act.put, List.setIfInBounds_toArray, List.set_cons_zero, List.set_cons_succ]
    refine wpAnyH_take (i := 0) (v := ?_) (by simp only [List.getElem?_toArray, List.getElem?_cons_zero]; rfl) (by kernel_rfl) (by kernel_rfl) (by kernel_rfl) (by intro _ _ _ h; exact h) (Or.inl ⟨by rfl, ?_⟩) hHeld ?_
    rotate_left 1
    · intro wq hSw
      try dsimp only at hSw
      go_simp
      try (with_reducible rfl)
    try simp only [Act.put, List.setIfInBounds_toArray, List.set_cons_zero, List.set_cons_succ]
    refine wpAnyH_take (i := 1) (v := ?_) (by simp only [List.getElem?_toArray, List.getElem?_cons_succ, List.getElem?_cons_zero]; rfl) (by kernel_rfl) (by kernel_rfl) (by kernel_rfl) (by intro _ _ _ h; exact h) (Or.inl ⟨by rfl, ?_⟩) hHeld ?_
    rotate_left 1
    · intro wq hSw
      try dsimp only at hSw
      go_simp
      try (with_reducible rfl)
    try simp only [Act.put, List.setIfInBounds_toArray, List.set_cons_zero, List.set_cons_succ]
    refine wpAnyH_take (i := 2) (v := ?_) (by simp only [List.getElem?_toArray, List.getElem?_cons_succ, List.getElem?_cons_zero]; rfl) (by kernel_rfl) (by kernel_rfl) (by kernel_rfl) (by intro _ _ _ h; exact h) (Or.inl ⟨by rfl, ?_⟩) hHeld ?_
    rotate_left 1
    · intro wq hSw
      try dsimp only at hSw
      go_simp
      try (with_reducible rfl)
    try simp only [Act.put, List.setIfInBounds_toArray, List.set_cons_zero, List.set_cons_succ]
    refine wpAnyH_take (i := 3) (v := ?_) (by simp only [List.getElem?_toArray, List.getElem?_cons_succ, List.getElem?_cons_zero]; rfl) (by kernel_rfl) (by kernel_rfl) (by kernel_rfl) (by intro _ _ _ h; exact h) (Or.inl ⟨by rfl, ?_⟩) hHeld ?_
    rotate_left 1
    · intro wq hSw
      try dsimp only at hSw
      obtain ⟨y0', y1', y2', y3', y4', _⟩ := (Vb.under hSw).five
      obtain ⟨v0', v1', v2', v3', v4', _⟩ := (V0.under hSw).five
      go_simp
      try (with_reducible rfl)
    try simp only [Act.put, List.setIfInBounds_toArray, List.set_cons_zero, List.set_cons_succ]
    refine wpAnyH_take (i := 4) (v := ?_) (by simp only [List.getElem?_toArray, List.getElem?_cons_succ, List.getElem?_cons_zero]; rfl) (by kernel_rfl) (by kernel_rfl) (by kernel_rfl) (by intro _ _ _ h; exact h) (Or.inl ⟨by rfl, ?_⟩) hHeld ?_
    rotate_left 1
    · intro wq hSw
      try dsimp only at hSw
      go_simp
      try (with_reducible rfl)
    try simp only [Act.put, List.setIfInBounds_toArray, List.set_cons_zero, List.set_cons_succ]
    refine wpAnyH_take (i := 5) (v := ?_) (by simp only [List.getElem?_toArray, List.getElem?_cons_succ, List.getElem?_cons_zero]; rfl) (by kernel_rfl) (by kernel_rfl) (by kernel_rfl) (by intro _ _ _ h; exact h) (Or.inl ⟨by rfl, ?_⟩) hHeld ?_
    rotate_left 1
    · intro wq hSw
      try dsimp only at hSw
      go_simp
      try (with_reducible rfl)
    try simp only [Act.put, List.setIfInBounds_toArray, List.set_cons_zero, List.set_cons_succ]
    refine wpAnyH_take (i := 6) (v := ?_) (by simp only [List.getElem?_toArray, List.getElem?_cons_succ, List.getElem?_cons_zero]; rfl) (by kernel_rfl) (by kernel_rfl) (by kernel_rfl) (by intro _ _ _ h; exact h) (Or.inl ⟨by rfl, ?_⟩) hHeld ?_
    rotate_left 1
    · intro wq hSw
      try dsimp only at hSw
      go_simp
      try (with_reducible rfl)
    try simp only [Act.put, List.setIfInBounds_toArray, List.set_cons_zero, List.set_cons_succ]
    refine wpAnyH_take (i := 7) (v := ?_) (by simp only [List.getElem?_toArray, List.getElem?_cons_succ, List.getElem?_cons_zero]; rfl) (by kernel_rfl) (by kernel_rfl) (by kernel_rfl) (by intro _ _ _ h; exact h) (Or.inl ⟨by rfl, ?_⟩) hHeld ?_
    rotate_left 1
    · intro wq hSw
      try dsimp only at hSw
      go_simp
      try (with_reducible rfl)
    try simp only [Act.put, List.setIfInBounds_toArray, List.set_cons_zero, List.set_cons_succ]
    refine wpAnyH_take (i := 8) (v := ?_) (by simp only [List.getElem?_toArray, List.getElem?_cons_succ, List.getElem?_cons_zero]; rfl) (by kernel_rfl) (by kernel_rfl) (by kernel_rfl) (by intro _ _ _ h; exact h) (Or.inl ⟨by rfl, ?_⟩) hHeld ?_
    rotate_left 1
    · intro wq hSw
      try dsimp only at hSw
      go_simp
      try (with_reducible rfl)
    try simp only [Act.put, List.setIfInBounds_toArray, List.set_cons_zero, List.set_cons_succ]
    refine wpAnyH_take (i := 9) (v := ?_) (by simp only [List.getElem?_toArray, List.getElem?_cons_succ, List.getElem?_cons_zero]; rfl) (by kernel_rfl) (by kernel_rfl) (by kernel_rfl) (by intro _ _ _ h; exact h) (Or.inl ⟨by rfl, ?_⟩) hHeld ?_
    rotate_left 1
    · intro wq hSw
      try dsimp only at hSw
      obtain ⟨y0', y1', y2', y3', y4', _⟩ := (Vb.under hSw).five
      obtain ⟨v0', v1', v2', v3', v4', _⟩ := (V0.under hSw).five
      go_simp
      try (with_reducible rfl)
    try simp only [Act.put, List.setIfInBounds_toArray, List.set_cons_zero, List.set_cons_succ]
    refine wpAnyH_take (i := 10) (v := ?_) (by simp only [List.getElem?_toArray, List.getElem?_cons_succ, List.getElem?_cons_zero]; rfl) (by kernel_rfl) (by kernel_rfl) (by kernel_rfl) (by intro _ _ _ h; exact h) (Or.inl ⟨by rfl, ?_⟩) hHeld ?_
    rotate_left 1
    · intro wq hSw
      try dsimp only at hSw
      go_simp
      try (with_reducible rfl)
    try simp only [Act.put, List.setIfInBounds_toArray, List.set_cons_zero, List.set_cons_succ]
    refine wpAnyH_take (i := 11) (v := ?_) (by simp only [List.getElem?_toArray, List.getElem?_cons_succ, List.getElem?_cons_zero]; rfl) (by kernel_rfl) (by kernel_rfl) (by kernel_rfl) (by intro _ _ _ h; exact h) (Or.inl ⟨by rfl, ?_⟩) hHeld ?_
    rotate_left 1
    · intro wq hSw
      try dsimp only at hSw
      obtain ⟨y0', y1', y2', y3', y4', _⟩ := (Vb.under hSw).five
      obtain ⟨v0', v1', v2', v3', v4', _⟩ := (V0.under hSw).five
      go_simp
      try (with_reducible rfl)
    try simp only [Act.put, List.setIfInBounds_toArray, List.set_cons_zero, List.set_cons_succ]
    refine wpAnyH_take (i := 12) (v := ?_) (by simp only [List.getElem?_toArray, List.getElem?_cons_succ, List.getElem?_cons_zero]; rfl) (by kernel_rfl) (by kernel_rfl) (by kernel_rfl) (by intro _ _ _ h; exact h) (Or.inl ⟨by rfl, ?_⟩) hHeld ?_
    rotate_left 1
    · intro wq hSw
      try dsimp only at hSw
      go_simp
      try (with_reducible rfl)
    try simp only [Act.put, List.setIfInBounds_toArray, List.set_cons_zero, List.set_cons_succ]
    refine wpAnyH_take (i := 13) (v := ?_) (by simp only [List.getElem?_toArray, List.getElem?_cons_succ, List.getElem?_cons_zero]; rfl) (by kernel_rfl) (by kernel_rfl) (by kernel_rfl) (by intro _ _ _ h; exact h) (Or.inl ⟨by rfl, ?_⟩) hHeld ?_
    rotate_left 1
    · intro wq hSw
      try dsimp only at hSw
      go_simp
      try (with_reducible rfl)
    try simp only [Act.put, List.setIfInBounds_toArray, List.set_cons_zero, List.set_cons_succ]
    refine wpAnyH_take (i := 14) (v := ?_) (by simp only [List.getElem?_toArray, List.getElem?_cons_succ, List.getElem?_cons_zero]; rfl) (by kernel_rfl) (by kernel_rfl) (by kernel_rfl) (by intro _ _ _ h; exact h) (Or.inl ⟨by rfl, ?_⟩) hHeld ?_
    rotate_left 1
    · intro wq hSw
      try dsimp only at hSw
      go_simp
      try (with_reducible rfl)
    try simp only [Act.put, List.setIfInBounds_toArray, List.set_cons_zero, List.set_cons_succ]
    refine wpAnyH_take (i := 15) (v := ?_) (by simp only [List.getElem?_toArray, List.getElem?_cons_succ, List.getElem?_cons_zero]; rfl) (by kernel_rfl) (by kernel_rfl) (by kernel_rfl) (by intro _ _ _ h; exact h) (Or.inl ⟨by rfl, ?_⟩) hHeld ?_
    rotate_left 1
    · intro wq hSw
      try dsimp only at hSw
      go_simp
      try (with_reducible rfl)
    try simp only [Act.put, List.setIfInBounds_toArray, List.set_cons_zero, List.set_cons_succ]
    refine wpAnyH_take (i := 16) (v := ?_) (by simp only [List.getElem?_toArray, List.getElem?_cons_succ, List.getElem?_cons_zero]; rfl) (by kernel_rfl) (by kernel_rfl) (by kernel_rfl) (by intro _ _ _ h; exact h) (Or.inl ⟨by rfl, ?_⟩) hHeld ?_
    rotate_left 1
    · intro wq hSw
      try dsimp only at hSw
      go_simp
      try (with_reducible rfl)
    try simp only [Act.put, List.setIfInBounds_toArray, List.set_cons_zero, List.set_cons_succ]
    refine wpAnyH_take (i := 17) (v := ?_) (by simp only [List.getElem?_toArray, List.getElem?_cons_succ, List.getElem?_cons_zero]; rfl) (by kernel_rfl) (by kernel_rfl) (by kernel_rfl) (by intro _ _ _ h; exact h) (Or.inl ⟨by rfl, ?_⟩) hHeld ?_
    rotate_left 1
    · intro wq hSw
      try dsimp only at hSw
      go_simp
      try (with_reducible rfl)
    try simp only [Act.put, List.setIfInBounds_toArray, List.set_cons_zero, List.set_cons_succ]
    refine wpAnyH_take (i := 18) (v := ?_) (by simp only [List.getElem?_toArray, List.getElem?_cons_succ, List.getElem?_cons_zero]; rfl) (by kernel_rfl) (by kernel_rfl) (by kernel_rfl) (by intro _ _ _ h; exact h) (Or.inl ⟨by rfl, ?_⟩) hHeld ?_
    rotate_left 1
    · intro wq hSw
      try dsimp only at hSw
      go_simp
      try (with_reducible rfl)
    try simp only [Act.put, List.setIfInBounds_toArray, List.set_cons_zero, List.set_cons_succ]
    refine wpAnyH_take (i := 19) (v := ?_) (by simp only [List.getElem?_toArray, List.getElem?_cons_succ, List.getElem?_cons_zero]; rfl) (by kernel_rfl) (by kernel_rfl) (by kernel_rfl) (by intro _ _ _ h; exact h) (Or.inl ⟨by rfl, ?_⟩) hHeld ?_
    rotate_left 1
    · intro wq hSw
      try dsimp only at hSw
      go_simp
      try (with_reducible rfl)
    try simp only [Act.put, List.setIfInBounds_toArray, List.set_cons_zero, List.set_cons_succ]
    refine wpAnyH_take (i := 20) (v := ?_) (by simp only [List.getElem?_toArray, List.getElem?_cons_succ, List.getElem?_cons_zero]; rfl) (by kernel_rfl) (by kernel_rfl) (by kernel_rfl) (by intro _ _ _ h; exact h) (Or.inl ⟨by rfl, ?_⟩) hHeld ?_
    rotate_left 1
    · intro wq hSw
      try dsimp only at hSw
      have qs := str_of (Sd.below hSw)
      have qt := str_of (Se.below hSw)
      go_simp
      try (with_reducible rfl)
    try simp only [Act.put, List.setIfInBounds_toArray, List.set_cons_zero, List.set_cons_succ]
    refine wpAnyH_take (i := 21) (v := ?_) (by simp only [List.getElem?_toArray, List.getElem?_cons_succ, List.getElem?_cons_zero]; rfl) (by kernel_rfl) (by kernel_rfl) (by kernel_rfl) (by intro _ _ _ h; exact h) (Or.inl ⟨by rfl, ?_⟩) hHeld ?_
    rotate_left 1
    · intro wq hSw
      try dsimp only at hSw
      go_simp
      try (with_reducible rfl)
    try simp only [Act.put, List.setIfInBounds_toArray, List.set_cons_zero, List.set_cons_succ]
    refine wpAnyH_take (i := 22) (v := ?_) (by simp only [List.getElem?_toArray, List.getElem?_cons_succ, List.getElem?_cons_zero]; rfl) (by kernel_rfl) (by kernel_rfl) (by kernel_rfl) (by intro _ _ _ h; exact h) (Or.inl ⟨by rfl, ?_⟩) hHeld ?_
    rotate_left 1
    · intro wq hSw
      try dsimp only at hSw
      go_simp
      try (with_reducible rfl)
    try simp only [Act.put, List.setIfInBounds_toArray, List.set_cons_zero, List.set_cons_succ]
    refine wpAnyH_take (i := 23) (v := ?_) (by simp only [List.getElem?_toArray, List.getElem?_cons_succ, List.getElem?_cons_zero]; rfl) (by kernel_rfl) (by kernel_rfl) (by kernel_rfl) (by intro _ _ _ h; exact h) (Or.inl ⟨by rfl, ?_⟩) hHeld ?_
    rotate_left 1
    · intro wq hSw
      try dsimp only at hSw
      go_simp
      try (with_reducible rfl)
    try simp only [Act.put, List.setIfInBounds_toArray, List.set_cons_zero, List.set_cons_succ]
    refine wpAnyH_take (i := 24) (v := ?_) (by simp only [List.getElem?_toArray, List.getElem?_cons_succ, List.getElem?_cons_zero]; rfl) (by kernel_rfl) (by kernel_rfl) (by kernel_rfl) (by intro _ _ _ h; exact h) (Or.inl ⟨by rfl, ?_⟩) hHeld ?_
    rotate_left 1
    · intro wq hSw
      try dsimp only at hSw
      go_simp
      try (with_reducible rfl)
    try simp only [Act.put, List.setIfInBounds_toArray, List.set_cons_zero, List.set_cons_succ]
    refine wpAnyH_take (i := 25) (v := ?_) (by simp only [List.getElem?_toArray, List.getElem?_cons_succ, List.getElem?_cons_zero]; rfl) (by kernel_rfl) (by kernel_rfl) (by kernel_rfl) (by intro _ _ _ h; exact h) (Or.inl ⟨by rfl, ?_⟩) hHeld ?_
    rotate_left 1
    · intro wq hSw
      try dsimp only at hSw
      go_simp
      try (with_reducible rfl)
    try simp only [Act.put, List.setIfInBounds_toArray, List.set_cons_zero, List.set_cons_succ]
    refine wpAnyH_take (i := 26) (v := ?_) (by simp only [List.getElem?_toArray, List.getElem?_cons_succ, List.getElem?_cons_zero]; rfl) (by kernel_rfl) (by kernel_rfl) (by kernel_rfl) (by intro _ _ _ h; exact h) (Or.inl ⟨by rfl, ?_⟩) hHeld ?_
    rotate_left 1
    · intro wq hSw
      try dsimp only at hSw
      go_simp
      try (with_reducible rfl)
    try simp only [Act.put, List.setIfInBounds_toArray, List.set_cons_zero, List.set_cons_succ]
    refine wpAnyH_take (i := 27) (v := ?_) (by simp only [List.getElem?_toArray, List.getElem?_cons_succ, List.getElem?_cons_zero]; rfl) (by kernel_rfl) (by kernel_rfl) (by kernel_rfl) (by intro _ _ _ h; exact h) (Or.inl ⟨by rfl, ?_⟩) hHeld ?_
    rotate_left 1
    · intro wq hSw
      try dsimp only at hSw
      go_simp
      try (with_reducible rfl)
    try simp only [Act.put, List.setIfInBounds_toArray, List.set_cons_zero, List.set_cons_succ]
    refine wpAnyH_take (i := 28) (v := ?_) (by simp only [List.getElem?_toArray, List.getElem?_cons_succ, List.getElem?_cons_zero]; rfl) (by kernel_rfl) (by kernel_rfl) (by kernel_rfl) (by intro _ _ _ h; exact h) (Or.inl ⟨by rfl, ?_⟩) hHeld ?_
    rotate_left 1
    · intro wq hSw
      try dsimp only at hSw
      have qs := str_of (Sd.below hSw)
      have qt := str_of (Se.below hSw)
      go_simp
      try (with_reducible rfl)
    try simp only [Act.put, List.setIfInBounds_toArray, List.set_cons_zero, List.set_cons_succ]
    refine wpAnyH_take (i := 29) (v := ?_) (by simp only [List.getElem?_toArray, List.getElem?_cons_succ, List.getElem?_cons_zero]; rfl) (by kernel_rfl) (by kernel_rfl) (by kernel_rfl) (by intro _ _ _ h; exact h) (Or.inl ⟨by rfl, ?_⟩) hHeld ?_
    rotate_left 1
    · intro wq hSw
      try dsimp only at hSw
      go_simp
      try (with_reducible rfl)
    try simp only [Act.put, List.setIfInBounds_toArray, List.set_cons_zero, List.set_cons_succ]
    refine wpAnyH_take (i := 30) (v := ?_) (by simp only [List.getElem?_toArray, List.getElem?_cons_succ, List.getElem?_cons_zero]; rfl) (by kernel_rfl) (by kernel_rfl) (by kernel_rfl) (by intro _ _ _ h; exact h) (Or.inl ⟨by rfl, ?_⟩) hHeld ?_
    rotate_left 1
    · intro wq hSw
      try dsimp only at hSw
      go_simp
      try (with_reducible rfl)
    try simp only [Act.put, List.setIfInBounds_toArray, List.set_cons_zero, List.set_cons_succ]
    refine wpAnyH_take (i := 31) (v := ?_) (by simp only [List.getElem?_toArray, List.getElem?_cons_succ, List.getElem?_cons_zero]; rfl) (by kernel_rfl) (by kernel_rfl) (by kernel_rfl) (by intro _ _ _ h; exact h) (Or.inl ⟨by rfl, ?_⟩) hHeld ?_
    rotate_left 1
    · intro wq hSw
      try dsimp only at hSw
      go_simp
      try (with_reducible rfl)
    try simp only [Act.put, List.setIfInBounds_toArray, List.set_cons_zero, List.set_cons_succ]
    refine wpAnyH_take (i := 32) (v := ?_) (by simp only [List.getElem?_toArray, List.getElem?_cons_succ, List.getElem?_cons_zero]; rfl) (by kernel_rfl) (by kernel_rfl) (by kernel_rfl) (by intro _ _ _ h; exact h) (Or.inl ⟨by rfl, ?_⟩) hHeld ?_
    rotate_left 1
    · intro wq hSw
      try dsimp only at hSw
      go_simp
      try (with_reducible rfl)
    try simp only [Act.put, List.setIfInBounds_toArray, List.set_cons_zero, List.set_cons_succ]
    refine wpAnyH_take (i := 33) (v := ?_) (by simp only [List.getElem?_toArray, List.getElem?_cons_succ, List.getElem?_cons_zero]; rfl) (by kernel_rfl) (by kernel_rfl) (by kernel_rfl) (by intro _ _ _ h; exact h) (Or.inl ⟨by rfl, ?_⟩) hHeld ?_
    rotate_left 1
    · intro wq hSw
      try dsimp only at hSw
      obtain ⟨y0', y1', y2', y3', y4', _⟩ := (Vb.under hSw).five
      obtain ⟨v0', v1', v2', v3', v4', _⟩ := (V0.under hSw).five
      go_simp
      try (with_reducible rfl)
    try simp only [Act.put, List.setIfInBounds_toArray, List.set_cons_zero, List.set_cons_succ]
    refine wpAnyH_take (i := 34) (v := ?_) (by simp only [List.getElem?_toArray, List.getElem?_cons_succ, List.getElem?_cons_zero]; rfl) (by kernel_rfl) (by kernel_rfl) (by kernel_rfl) (by intro _ _ _ h; exact h) (Or.inl ⟨by rfl, ?_⟩) hHeld ?_
    rotate_left 1
    · intro wq hSw
      try dsimp only at hSw
      go_simp
      try (with_reducible rfl)
    try simp only [Act.put, List.setIfInBounds_toArray, List.set_cons_zero, List.set_cons_succ]
    refine wpAnyH_take (i := 35) (v := ?_) (by simp only [List.getElem?_toArray, List.getElem?_cons_succ, List.getElem?_cons_zero]; rfl) (by kernel_rfl) (by kernel_rfl) (by kernel_rfl) (by intro _ _ _ h; exact h) (Or.inl ⟨by rfl, ?_⟩) hHeld ?_
    rotate_left 1
    · intro wq hSw
      try dsimp only at hSw
      obtain ⟨y0', y1', y2', y3', y4', _⟩ := (Vb.under hSw).five
      obtain ⟨v0', v1', v2', v3', v4', _⟩ := (V0.under hSw).five
      go_simp
      try (with_reducible rfl)
    try simp only [Act.put, List.setIfInBounds_toArray, List.set_cons_zero, List.set_cons_succ]
    refine wpAnyH_take (i := 36) (v := ?_) (by simp only [List.getElem?_toArray, List.getElem?_cons_succ, List.getElem?_cons_zero]; rfl) (by kernel_rfl) (by kernel_rfl) (by kernel_rfl) (by intro _ _ _ h; exact h) (Or.inl ⟨by rfl, ?_⟩) hHeld ?_
    rotate_left 1
    · intro wq hSw
      try dsimp only at hSw
      go_simp
      try (with_reducible rfl)
    try simp only [Act.put, List.setIfInBounds_toArray, List.set_cons_zero, List.set_cons_succ]
    refine wpAnyH_take (i := 37) (v := ?_) (by simp only [List.getElem?_toArray, List.getElem?_cons_succ, List.getElem?_cons_zero]; rfl) (by kernel_rfl) (by kernel_rfl) (by kernel_rfl) (by intro _ _ _ h; exact h) (Or.inl ⟨by rfl, ?_⟩) hHeld ?_
    rotate_left 1
    · intro wq hSw
      try dsimp only at hSw
      go_simp
      try (with_reducible rfl)
    try simp only [Act.put, List.setIfInBounds_toArray, List.set_cons_zero, List.set_cons_succ]
    refine wpAnyH_take (i := 38) (v := ?_) (by simp only [List.getElem?_toArray, List.getElem?_cons_succ, List.getElem?_cons_zero]; rfl) (by kernel_rfl) (by kernel_rfl) (by kernel_rfl) (by intro _ _ _ h; exact h) (Or.inl ⟨by rfl, ?_⟩) hHeld ?_
    rotate_left 1
    · intro wq hSw
      try dsimp only at hSw
      go_simp
      try (with_reducible rfl)
    try simp only [Act.put, List.setIfInBounds_toArray, List.set_cons_zero, List.set_cons_succ]
    refine wpAnyH_take (i := 39) (v := ?_) (by simp only [List.getElem?_toArray, List.getElem?_cons_succ, List.getElem?_cons_zero]; rfl) (by kernel_rfl) (by kernel_rfl) (by kernel_rfl) (by intro _ _ _ h; exact h) (Or.inl ⟨by rfl, ?_⟩) hHeld ?_
    rotate_left 1
    · intro wq hSw
      try dsimp only at hSw
      go_simp
      try (with_reducible rfl)
    try simp only [Act.put, List.setIfInBounds_toArray, List.set_cons_zero, List.set_cons_succ]
    refine wpAnyH_take (i := 40) (v := ?_) (by simp only [List.getElem?_toArray, List.getElem?_cons_succ, List.getElem?_cons_zero]; rfl) (by kernel_rfl) (by kernel_rfl) (by kernel_rfl) (by intro _ _ _ h; exact h) (Or.inl ⟨by rfl, ?_⟩) hHeld ?_
    rotate_left 1
    · intro wq hSw
      try dsimp only at hSw
      obtain ⟨y0', y1', y2', y3', y4', _⟩ := (Vb.under hSw).five
      obtain ⟨v0', v1', v2', v3', v4', _⟩ := (V0.under hSw).five
      go_simp
      try (with_reducible rfl)
    try simp only [Act.put, List.setIfInBounds_toArray, List.set_cons_zero, List.set_cons_succ]
    refine wpAnyH_take (i := 41) (v := ?_) (by simp only [List.getElem?_toArray, List.getElem?_cons_succ, List.getElem?_cons_zero]; rfl) (by kernel_rfl) (by kernel_rfl) (by kernel_rfl) (by intro _ _ _ h; exact h) (Or.inl ⟨by rfl, ?_⟩) hHeld ?_
    rotate_left 1
    · intro wq hSw
      try dsimp only at hSw
      go_simp
      try (with_reducible rfl)
    try simp only [Act.put, List.setIfInBounds_toArray, List.set_cons_zero, List.set_cons_succ]
    refine wpAnyH_take (i := 42) (v := ?_) (by simp only [List.getElem?_toArray, List.getElem?_cons_succ, List.getElem?_cons_zero]; rfl) (by kernel_rfl) (by kernel_rfl) (by kernel_rfl) (by intro _ _ _ h; exact h) (Or.inl ⟨by rfl, ?_⟩) hHeld ?_
    rotate_left 1
    · intro wq hSw
      try dsimp only at hSw
      obtain ⟨y0', y1', y2', y3', y4', _⟩ := (Vb.under hSw).five
      obtain ⟨v0', v1', v2', v3', v4', _⟩ := (V0.under hSw).five
      go_simp
      try (with_reducible rfl)
    try simp only [Act.put, List.setIfInBounds_toArray, List.set_cons_zero, List.set_cons_succ]
    refine wpAnyH_take (i := 43) (v := ?_) (by simp only [List.getElem?_toArray, List.getElem?_cons_succ, List.getElem?_cons_zero]; rfl) (by kernel_rfl) (by kernel_rfl) (by kernel_rfl) (by intro _ _ _ h; exact h) (Or.inl ⟨by rfl, ?_⟩) hHeld ?_
    rotate_left 1
    · intro wq hSw
      try dsimp only at hSw
      go_simp
      try (with_reducible rfl)
    try simp only [Act.put, List.setIfInBounds_toArray, List.set_cons_zero, List.set_cons_succ]
    refine wpAnyH_take (i := 44) (v := ?_) (by simp only [List.getElem?_toArray, List.getElem?_cons_succ, List.getElem?_cons_zero]; rfl) (by kernel_rfl) (by kernel_rfl) (by kernel_rfl) (by intro _ _ _ h; exact h) (Or.inl ⟨by rfl, ?_⟩) hHeld ?_
    rotate_left 1
    · intro wq hSw
      try dsimp only at hSw
      go_simp
      try (with_reducible rfl)
    try simp only [Act.put, List.setIfInBounds_toArray, List.set_cons_zero, List.set_cons_succ]
    refine wpAnyH_take (i := 45) (v := ?_) (by simp only [List.getElem?_toArray, List.getElem?_cons_succ, List.getElem?_cons_zero]; rfl) (by kernel_rfl) (by kernel_rfl) (by kernel_rfl) (by intro _ _ _ h; exact h) (Or.inl ⟨by rfl, ?_⟩) hHeld ?_
    rotate_left 1
    · intro wq hSw
      try dsimp only at hSw
      go_simp
      try (with_reducible rfl)
    try simp only [Act.put, List.setIfInBounds_toArray, List.set_cons_zero, List.set_cons_succ]
    refine wpAnyH_done (by kernel_rfl) ?_ _
    go_wp2
    go_ret
    exact ⟨rfl, bb.trans (bd.mono bb.size)⟩

theorem ExtentCuts_walk (a0_0 : Int) (a0_1 : Int) (a0_2 : Int) (a0_3 : Int) (a0_4 : Option Addr) (len0_4 cap0_4 : Nat) (z0_4 : List Int) (a1 : Int) (a2 : Int) (w : World) (w0_0 : (Lit.int .i64 a0_0).wf = true) (w0_1 : (Lit.int .i64 a0_1).wf = true) (w0_2 : (Lit.int .i64 a0_2).wf = true) (w0_3 : (Lit.int .i64 a0_3).wf = true) (w0_4 : IsRow .u8 w a0_4 len0_4 cap0_4 z0_4) (w1 : (Lit.int .i64 a1).wf = true) (w2 : (Lit.int .i64 a2).wf = true) :
    Calls Try.prog 9 #[.agg #[.int .i64 a0_0, .int .i64 a0_1, .int .i64 a0_2, .int .i64 a0_3, .slice a0_4 len0_4 cap0_4], .int .i64 a1, .int .i64 a2] w (AwakePost w) := by
  obtain ⟨l, h⟩ := w0_4.bytes
  exact cuts_core a0_0 a0_1 a0_2 a0_3 a0_4 len0_4 cap0_4 l a1 a2 w (ext_wf w0_0) h
end Go.Proofs.Ytfblbdkkmfnhmaa
