/-
  ExtentJoins: the walk (written by gen_extjoins.py).
-/
import Derived.Test.YtfblbdkkmfnhmaaExtAwake
import Derived.Test.YtfblbdkkmfnhmaaArgs
namespace Go.Wag
open Go.RowKit
theorem cut_part {x : Xp} (h : x.ok = true) {s e a q : Int} (ha : 0 ≤ a) (ha2 : a ≤ 64) (hq : 0 ≤ q) (hq2 : q ≤ 64) (hs : xlo x a = s) (he : xhi x a q = e) (hse : s < e) : xcut x a q = some (xpart x s e) := by
  have := xcut_yes (x := x) (a := a) (m := q) ⟨h, ha, ha2, hq, hq2, by rw [hs, he]; exact hse⟩
  rw [hs, he] at this
  exact this
theorem join_part {x : Xp} (h : x.ok = true) {s m e : Int} (h1 : x.la ≤ s) (h2 : s < m) (h3 : m < e) (h4 : e ≤ x.la + x.n) : xjoin (xpart x s m) (xpart x m e) = some (xpart x s e) := by
  obtain ⟨a, b⟩ := xpart_join h h1 h2 h3 h4
  unfold xjoin
  rw [if_pos a, b]
theorem joins_facts {x : Xp} (h : x.ok = true) {m nn : Int} (m1 : 1 ≤ m) (m2 : m < nn) (m3 : nn < x.n) : ∃ a b c p r : Xp, xcut x 0 (x.la + m) = some a ∧ xcut x (x.la + m) (nn - m) = some b ∧ xcut x (x.la + nn) 64 = some c ∧ xjoin a b = some p ∧ xjoin p c = some x ∧ xjoin b c = some r ∧ xjoin a r = some x ∧ xjoin a c = none ∧
    a.la ≤ 9223372036854775807 ∧ b.la ≤ 9223372036854775807 ∧ c.la ≤ 9223372036854775807 ∧ p.la ≤ 9223372036854775807 ∧ r.la ≤ 9223372036854775807 := by
  obtain ⟨y1, y2, y3, _⟩ := Xp.all h
  have e := xpart_all h
  refine ⟨xpart x x.la (x.la + m), xpart x (x.la + m) (x.la + nn), xpart x (x.la + nn) (x.la + x.n), xpart x x.la (x.la + nn), xpart x (x.la + m) (x.la + x.n), ?_, ?_, ?_, ?_, ?_, ?_, ?_, ?_, ?_, ?_, ?_, ?_, ?_⟩
  · exact cut_part h (by omega) (by omega) (by omega) (by omega) (by unfold xlo; omega) (by unfold xhi; omega) (by omega)
  · exact cut_part h (by omega) (by omega) (by omega) (by omega) (by unfold xlo; omega) (by unfold xhi; omega) (by omega)
  · exact cut_part h (by omega) (by omega) (by omega) (by omega) (by unfold xlo; omega) (by unfold xhi; omega) (by omega)
  · exact join_part h (by omega) (by omega) (by omega) (by omega)
  · have := join_part h (s := x.la) (m := x.la + nn) (e := x.la + x.n) (by omega) (by omega) (by omega) (by omega)
    rwa [e] at this
  · exact join_part h (by omega) (by omega) (by omega) (by omega)
  · have := join_part h (s := x.la) (m := x.la + m) (e := x.la + x.n) (by omega) (by omega) (by omega) (by omega)
    rwa [e] at this
  · unfold xjoin
    rw [if_neg]
    intro hh
    have := (xjoins_all hh).2.2.1
    simp only [xpart] at this
    omega
  · show x.la ≤ _; omega
  · show x.la + m ≤ _; omega
  · show x.la + nn ≤ _; omega
  · show x.la ≤ _; omega
  · show x.la + m ≤ _; omega
theorem tmod_range {a d : Int} (ha : 0 ≤ a) (hd : 0 < d) : 0 ≤ Int.tmod a d ∧ Int.tmod a d < d := by
  rw [Int.tmod_eq_emod_of_nonneg ha]
  exact ⟨Int.emod_nonneg a (by omega), Int.emod_lt_of_pos a hd⟩
/-- The numbers that ExtentJoins reckons. -/
theorem joins_nums {la n i j : Int} (h0 : 0 ≤ la) (h1 : la + n ≤ 64) (h3 : 3 ≤ n) (hi : 0 ≤ i) (hj : 0 ≤ j) : ∃ d1 q1 m m1 d2 d3 q2 nn e1 e2 e3 : Int, wrap64 (n - 2) = d1 ∧ ¬ d1 = 0 ∧ Int.tmod i d1 = q1 ∧ wrap64 (1 + q1) = m ∧ wrap64 (m + 1) = m1 ∧ wrap64 (n - m) = d2 ∧ wrap64 (d2 - 1) = d3 ∧ ¬ d3 = 0 ∧ Int.tmod j d3 = q2 ∧ wrap64 (m1 + q2) = nn ∧
    wrap64 (la + m) = e1 ∧ wrap64 (nn - m) = e2 ∧ wrap64 (la + nn) = e3 ∧ (1 ≤ m ∧ m < nn ∧ nn < n ∧ e1 = la + m ∧ e2 = nn - m ∧ e3 = la + nn) := by
  obtain ⟨a1, a2⟩ := tmod_range hi (show 0 < n - 2 by omega)
  generalize hq1 : Int.tmod i (n - 2) = q1 at a1 a2
  obtain ⟨b1, b2⟩ := tmod_range hj (show 0 < n - (1 + q1) - 1 by omega)
  generalize hq2 : Int.tmod j (n - (1 + q1) - 1) = q2 at b1 b2
  refine ⟨n - 2, q1, 1 + q1, 1 + q1 + 1, n - (1 + q1), n - (1 + q1) - 1, q2, 1 + q1 + 1 + q2, la + (1 + q1), 1 + q1 + 1 + q2 - (1 + q1), la + (1 + q1 + 1 + q2), ?_, by omega, hq1, ?_, ?_, ?_, ?_, by omega, hq2, ?_, ?_, ?_, ?_, by omega, by omega, by omega, rfl, rfl, rfl⟩
  all_goals (unfold wrap64; omega)
end Go.Wag
namespace Go.Proofs.Ytfblbdkkmfnhmaa
open Go.RowKit Go.Wag
set_option linter.unusedVariables false
set_option linter.unusedSimpArgs false
set_option maxRecDepth 100000 in
set_option maxHeartbeats 8000000 in
theorem joins_core (la n k g : Int) (A : Option Addr) (m c : Nat) (l : List UInt8) (i j : Int) (w : World) (hla : la ≤ 9223372036854775807) (hi : 0 ≤ i ∧ i ≤ 255) (hj : 0 ≤ j ∧ j ≤ 255) (h : Sl w A m c (l.map v8)) :
    Calls Try.prog 8 #[.agg #[.int .i64 la, .int .i64 n, .int .i64 k, .int .i64 g, .slice A m c], .int .u8 i, .int .u8 j] w (AwakePost w) := by
  have hl : l.length = m := h.len8
  cases r1 : xchk la n k g m
  · skip
    have S0 := h
    have bb := Below.refl w.heap.size w
    go_enter Try.func8, Try.ntmps8
    replace S0 := S0.alloc (.cells #[.int .i64 la, .int .i64 n, .int .i64 k, .int .i64 g, .slice A m c] 25)
    replace bb := bb.alloc bb.size (.cells #[.int .i64 la, .int .i64 n, .int .i64 k, .int .i64 g, .slice A m c] 25)
    have V0 := Blk.new w #[.int .i64 la, .int .i64 n, .int .i64 k, .int .i64 g, .slice A m c] 25
    go_wp2_with fail
    generalize (w.alloc (.cells #[.int .i64 la, .int .i64 n, .int .i64 k, .int .i64 g, .slice A m c] 25)) = wa at *
    have hC := awake7_any wa
    refine hC.mono ?_
    clear hC
    rintro e w1 ⟨rfl, b1⟩
    replace S0 := S0.below b1
    replace V0 := V0.under b1
    replace bb := bb.trans (b1.mono bb.size)
    obtain ⟨V0q0, V0q1, V0q2, V0q3, V0q4, V0r0, V0r1, V0r2, V0r3, V0r4⟩ := V0.five
    have V0l := V0.lt
    go_wp2_with fail
    clear V0q0 V0q1 V0q2 V0q3 V0q4 V0r0 V0r1 V0r2 V0r3 V0r4
    have hC := eCheck_any la n k g A m c w1 hla
    refine hC.mono ?_
    clear hC
    rintro e w2 ⟨rfl, b2⟩
    replace S0 := S0.below b2
    replace V0 := V0.under b2
    replace bb := bb.trans (b2.mono bb.size)
    rw [r1]
    obtain ⟨V0q0, V0q1, V0q2, V0q3, V0q4, V0r0, V0r1, V0r2, V0r3, V0r4⟩ := V0.five
    have V0l := V0.lt
    go_wp2
    go_ret
    exact ⟨rfl, bb⟩
  by_cases h3 : n < 3
  · skip
    have S0 := h
    have bb := Below.refl w.heap.size w
    go_enter Try.func8, Try.ntmps8
    replace S0 := S0.alloc (.cells #[.int .i64 la, .int .i64 n, .int .i64 k, .int .i64 g, .slice A m c] 25)
    replace bb := bb.alloc bb.size (.cells #[.int .i64 la, .int .i64 n, .int .i64 k, .int .i64 g, .slice A m c] 25)
    have V0 := Blk.new w #[.int .i64 la, .int .i64 n, .int .i64 k, .int .i64 g, .slice A m c] 25
    go_wp2_with fail
    generalize (w.alloc (.cells #[.int .i64 la, .int .i64 n, .int .i64 k, .int .i64 g, .slice A m c] 25)) = wa at *
    have hC := awake7_any wa
    refine hC.mono ?_
    clear hC
    rintro e w1 ⟨rfl, b1⟩
    replace S0 := S0.below b1
    replace V0 := V0.under b1
    replace bb := bb.trans (b1.mono bb.size)
    obtain ⟨V0q0, V0q1, V0q2, V0q3, V0q4, V0r0, V0r1, V0r2, V0r3, V0r4⟩ := V0.five
    have V0l := V0.lt
    go_wp2_with fail
    clear V0q0 V0q1 V0q2 V0q3 V0q4 V0r0 V0r1 V0r2 V0r3 V0r4
    have hC := eCheck_any la n k g A m c w1 hla
    refine hC.mono ?_
    clear hC
    rintro e w2 ⟨rfl, b2⟩
    replace S0 := S0.below b2
    replace V0 := V0.under b2
    replace bb := bb.trans (b2.mono bb.size)
    rw [r1]
    obtain ⟨V0q0, V0q1, V0q2, V0q3, V0q4, V0r0, V0r1, V0r2, V0r3, V0r4⟩ := V0.five
    have V0l := V0.lt
    go_wp2
    go_ret
    exact ⟨rfl, bb⟩
  have hok : (⟨la, n, k, g, l⟩ : Xp).ok = true := by unfold Xp.ok; rw [hl]; exact r1
  have hx := xchk_all r1
  obtain ⟨d1, q1, mm, m1, d2, d3, q2, nn, e1, e2, e3, s1, s2, s3, s4, s5, s6, s7, s8, s9, s10, s11, s12, s13, hM⟩ := joins_nums (la := la) (n := n) (i := i) (j := j) hx.1 hx.2.2.1 (by omega) hi.1 hj.1
  obtain ⟨ya, yb, yc, yp, yr, f1, f2, f3, f4, f5, f6, f7, f8, a1, a2, a3, a4, a5⟩ := joins_facts hok hM.1 hM.2.1 hM.2.2.1
  dsimp only at f1 f2 f3
  rw [← hM.2.2.2.1] at f1 f2
  rw [← hM.2.2.2.2.1] at f2
  rw [← hM.2.2.2.2.2] at f3
  obtain ⟨ala, an, ak, ag, al⟩ := ya
  obtain ⟨bla, bn, bk, bg, bl⟩ := yb
  obtain ⟨cla, cn, ck, cg, cl⟩ := yc
  obtain ⟨pla, pn, pk, pg, pl⟩ := yp
  obtain ⟨rla, rn, rk, rg, rl⟩ := yr
  dsimp only at a1 a2 a3 a4 a5
  have wi : wrap64 i = i := by unfold wrap64; omega
  have wj : wrap64 j = j := by unfold wrap64; omega
  replace hi := Lib.hid hi
  replace hj := Lib.hid hj
  replace f1 := Lib.hid f1
  replace f2 := Lib.hid f2
  replace f3 := Lib.hid f3
  replace f4 := Lib.hid f4
  replace f5 := Lib.hid f5
  replace f6 := Lib.hid f6
  replace f7 := Lib.hid f7
  replace f8 := Lib.hid f8
  replace a1 := Lib.hid a1
  replace a2 := Lib.hid a2
  replace a3 := Lib.hid a3
  replace a4 := Lib.hid a4
  replace a5 := Lib.hid a5
  clear hM hx hok hl
  have S0 := h
  have bb := Below.refl w.heap.size w
  go_enter Try.func8, Try.ntmps8
  replace S0 := S0.alloc (.cells #[.int .i64 la, .int .i64 n, .int .i64 k, .int .i64 g, .slice A m c] 25)
  replace bb := bb.alloc bb.size (.cells #[.int .i64 la, .int .i64 n, .int .i64 k, .int .i64 g, .slice A m c] 25)
  have V0 := Blk.new w #[.int .i64 la, .int .i64 n, .int .i64 k, .int .i64 g, .slice A m c] 25
  go_wp2_with fail
  generalize (w.alloc (.cells #[.int .i64 la, .int .i64 n, .int .i64 k, .int .i64 g, .slice A m c] 25)) = wa at *
  have hC := awake7_any wa
  refine hC.mono ?_
  clear hC
  rintro e w1 ⟨rfl, b1⟩
  replace S0 := S0.below b1
  replace V0 := V0.under b1
  replace bb := bb.trans (b1.mono bb.size)
  obtain ⟨V0q0, V0q1, V0q2, V0q3, V0q4, V0r0, V0r1, V0r2, V0r3, V0r4⟩ := V0.five
  have V0l := V0.lt
  go_wp2_with fail
  clear V0q0 V0q1 V0q2 V0q3 V0q4 V0r0 V0r1 V0r2 V0r3 V0r4
  have hC := eCheck_any la n k g A m c w1 hla
  refine hC.mono ?_
  clear hC
  rintro e w2 ⟨rfl, b2⟩
  replace S0 := S0.below b2
  replace V0 := V0.under b2
  replace bb := bb.trans (b2.mono bb.size)
  rw [r1]
  obtain ⟨V0q0, V0q1, V0q2, V0q3, V0q4, V0r0, V0r1, V0r2, V0r3, V0r4⟩ := V0.five
  have V0l := V0.lt
  go_wp2_with fail
  clear V0q0 V0q1 V0q2 V0q3 V0q4 V0r0 V0r1 V0r2 V0r3 V0r4
  have hC := eCut_ok la n k g A m c l 0 e1 w2 hla S0 f1.out
  refine hC.mono ?_
  clear hC
  rintro e w3 ⟨Aa, ma, ca, hma, rfl, Na, Ba⟩
  replace S0 := S0.below Ba
  replace V0 := V0.under Ba
  replace bb := bb.trans (Ba.mono bb.size)
  have Sa := Na.sl
  clear Na hma
  try dsimp only at Sa
  try dsimp only
  obtain ⟨V0q0, V0q1, V0q2, V0q3, V0q4, V0r0, V0r1, V0r2, V0r3, V0r4⟩ := V0.five
  have V0l := V0.lt
  replace S0 := S0.alloc (.cells #[.int .i64 ala, .int .i64 an, .int .i64 ak, .int .i64 ag, .slice Aa ma ca] 25)
  replace V0 := V0.alloc (.cells #[.int .i64 ala, .int .i64 an, .int .i64 ak, .int .i64 ag, .slice Aa ma ca] 25)
  replace Sa := Sa.alloc (.cells #[.int .i64 ala, .int .i64 an, .int .i64 ak, .int .i64 ag, .slice Aa ma ca] 25)
  replace bb := bb.alloc bb.size (.cells #[.int .i64 ala, .int .i64 an, .int .i64 ak, .int .i64 ag, .slice Aa ma ca] 25)
  have Va := Blk.new w3 #[.int .i64 ala, .int .i64 an, .int .i64 ak, .int .i64 ag, .slice Aa ma ca] 25
  go_wp2_with fail
  clear V0q0 V0q1 V0q2 V0q3 V0q4 V0r0 V0r1 V0r2 V0r3 V0r4
  generalize (w3.alloc (.cells #[.int .i64 ala, .int .i64 an, .int .i64 ak, .int .i64 ag, .slice Aa ma ca] 25)) = wb at *
  have hC := eCut_ok la n k g A m c l e1 e2 wb hla S0 f2.out
  refine hC.mono ?_
  clear hC
  rintro e w4 ⟨Ab, mb, cb, hmb, rfl, Nb, Bb⟩
  replace S0 := S0.below Bb
  replace V0 := V0.under Bb
  replace Sa := Sa.below Bb
  replace Va := Va.under Bb
  replace bb := bb.trans (Bb.mono bb.size)
  have Sb := Nb.sl
  clear Nb hmb
  try dsimp only at Sb
  try dsimp only
  obtain ⟨V0q0, V0q1, V0q2, V0q3, V0q4, V0r0, V0r1, V0r2, V0r3, V0r4⟩ := V0.five
  have V0l := V0.lt
  replace S0 := S0.alloc (.cells #[.int .i64 bla, .int .i64 bn, .int .i64 bk, .int .i64 bg, .slice Ab mb cb] 25)
  replace V0 := V0.alloc (.cells #[.int .i64 bla, .int .i64 bn, .int .i64 bk, .int .i64 bg, .slice Ab mb cb] 25)
  replace Sa := Sa.alloc (.cells #[.int .i64 bla, .int .i64 bn, .int .i64 bk, .int .i64 bg, .slice Ab mb cb] 25)
  replace Va := Va.alloc (.cells #[.int .i64 bla, .int .i64 bn, .int .i64 bk, .int .i64 bg, .slice Ab mb cb] 25)
  replace Sb := Sb.alloc (.cells #[.int .i64 bla, .int .i64 bn, .int .i64 bk, .int .i64 bg, .slice Ab mb cb] 25)
  replace bb := bb.alloc bb.size (.cells #[.int .i64 bla, .int .i64 bn, .int .i64 bk, .int .i64 bg, .slice Ab mb cb] 25)
  have Vb := Blk.new w4 #[.int .i64 bla, .int .i64 bn, .int .i64 bk, .int .i64 bg, .slice Ab mb cb] 25
  go_wp2_with fail
  clear V0q0 V0q1 V0q2 V0q3 V0q4 V0r0 V0r1 V0r2 V0r3 V0r4
  generalize (w4.alloc (.cells #[.int .i64 bla, .int .i64 bn, .int .i64 bk, .int .i64 bg, .slice Ab mb cb] 25)) = wc at *
  have hC := eCut_ok la n k g A m c l e3 64 wc hla S0 f3.out
  refine hC.mono ?_
  clear hC
  rintro e w5 ⟨Ac, mc, cc, hmc, rfl, Nc, Bc⟩
  replace S0 := S0.below Bc
  replace V0 := V0.under Bc
  replace Sa := Sa.below Bc
  replace Va := Va.under Bc
  replace Sb := Sb.below Bc
  replace Vb := Vb.under Bc
  replace bb := bb.trans (Bc.mono bb.size)
  have Sc := Nc.sl
  clear Nc hmc
  try dsimp only at Sc
  try dsimp only
  obtain ⟨Vaq0, Vaq1, Vaq2, Vaq3, Vaq4, Var0, Var1, Var2, Var3, Var4⟩ := Va.five
  have Val := Va.lt
  obtain ⟨Vbq0, Vbq1, Vbq2, Vbq3, Vbq4, Vbr0, Vbr1, Vbr2, Vbr3, Vbr4⟩ := Vb.five
  have Vbl := Vb.lt
  replace S0 := S0.alloc (.cells #[.int .i64 cla, .int .i64 cn, .int .i64 ck, .int .i64 cg, .slice Ac mc cc] 25)
  replace V0 := V0.alloc (.cells #[.int .i64 cla, .int .i64 cn, .int .i64 ck, .int .i64 cg, .slice Ac mc cc] 25)
  replace Sa := Sa.alloc (.cells #[.int .i64 cla, .int .i64 cn, .int .i64 ck, .int .i64 cg, .slice Ac mc cc] 25)
  replace Va := Va.alloc (.cells #[.int .i64 cla, .int .i64 cn, .int .i64 ck, .int .i64 cg, .slice Ac mc cc] 25)
  replace Sb := Sb.alloc (.cells #[.int .i64 cla, .int .i64 cn, .int .i64 ck, .int .i64 cg, .slice Ac mc cc] 25)
  replace Vb := Vb.alloc (.cells #[.int .i64 cla, .int .i64 cn, .int .i64 ck, .int .i64 cg, .slice Ac mc cc] 25)
  replace Sc := Sc.alloc (.cells #[.int .i64 cla, .int .i64 cn, .int .i64 ck, .int .i64 cg, .slice Ac mc cc] 25)
  replace bb := bb.alloc bb.size (.cells #[.int .i64 cla, .int .i64 cn, .int .i64 ck, .int .i64 cg, .slice Ac mc cc] 25)
  have Vc := Blk.new w5 #[.int .i64 cla, .int .i64 cn, .int .i64 ck, .int .i64 cg, .slice Ac mc cc] 25
  go_wp2_with fail
  clear Vaq0 Vaq1 Vaq2 Vaq3 Vaq4 Var0 Var1 Var2 Var3 Var4
  clear Vbq0 Vbq1 Vbq2 Vbq3 Vbq4 Vbr0 Vbr1 Vbr2 Vbr3 Vbr4
  generalize (w5.alloc (.cells #[.int .i64 cla, .int .i64 cn, .int .i64 ck, .int .i64 cg, .slice Ac mc cc] 25)) = wd at *
  have hC := eJoin_ok ala an ak ag Aa ma ca al bla bn bk bg Ab mb cb bl wd a1.out a2.out Sa Sb f4.out
  refine hC.mono ?_
  clear hC
  rintro e w6 ⟨Ap, mp, cp, hmp, rfl, Np, Bp⟩
  replace S0 := S0.below Bp
  replace V0 := V0.under Bp
  replace Sa := Sa.below Bp
  replace Va := Va.under Bp
  replace Sb := Sb.below Bp
  replace Vb := Vb.under Bp
  replace Sc := Sc.below Bp
  replace Vc := Vc.under Bp
  replace bb := bb.trans (Bp.mono bb.size)
  have Sp := Np.sl
  clear Np hmp
  try dsimp only at Sp
  try dsimp only
  obtain ⟨Vcq0, Vcq1, Vcq2, Vcq3, Vcq4, Vcr0, Vcr1, Vcr2, Vcr3, Vcr4⟩ := Vc.five
  have Vcl := Vc.lt
  replace S0 := S0.alloc (.cells #[.int .i64 pla, .int .i64 pn, .int .i64 pk, .int .i64 pg, .slice Ap mp cp] 25)
  replace V0 := V0.alloc (.cells #[.int .i64 pla, .int .i64 pn, .int .i64 pk, .int .i64 pg, .slice Ap mp cp] 25)
  replace Sa := Sa.alloc (.cells #[.int .i64 pla, .int .i64 pn, .int .i64 pk, .int .i64 pg, .slice Ap mp cp] 25)
  replace Va := Va.alloc (.cells #[.int .i64 pla, .int .i64 pn, .int .i64 pk, .int .i64 pg, .slice Ap mp cp] 25)
  replace Sb := Sb.alloc (.cells #[.int .i64 pla, .int .i64 pn, .int .i64 pk, .int .i64 pg, .slice Ap mp cp] 25)
  replace Vb := Vb.alloc (.cells #[.int .i64 pla, .int .i64 pn, .int .i64 pk, .int .i64 pg, .slice Ap mp cp] 25)
  replace Sc := Sc.alloc (.cells #[.int .i64 pla, .int .i64 pn, .int .i64 pk, .int .i64 pg, .slice Ap mp cp] 25)
  replace Vc := Vc.alloc (.cells #[.int .i64 pla, .int .i64 pn, .int .i64 pk, .int .i64 pg, .slice Ap mp cp] 25)
  replace Sp := Sp.alloc (.cells #[.int .i64 pla, .int .i64 pn, .int .i64 pk, .int .i64 pg, .slice Ap mp cp] 25)
  replace bb := bb.alloc bb.size (.cells #[.int .i64 pla, .int .i64 pn, .int .i64 pk, .int .i64 pg, .slice Ap mp cp] 25)
  have Vp := Blk.new w6 #[.int .i64 pla, .int .i64 pn, .int .i64 pk, .int .i64 pg, .slice Ap mp cp] 25
  obtain ⟨Vpq0, Vpq1, Vpq2, Vpq3, Vpq4, _⟩ := Vp.five
  go_wp2_with fail
  clear Vcq0 Vcq1 Vcq2 Vcq3 Vcq4 Vcr0 Vcr1 Vcr2 Vcr3 Vcr4
  generalize (w6.alloc (.cells #[.int .i64 pla, .int .i64 pn, .int .i64 pk, .int .i64 pg, .slice Ap mp cp] 25)) = we at *
  clear Vpq0 Vpq1 Vpq2 Vpq3 Vpq4
  have hC := eJoin_ok pla pn pk pg Ap mp cp pl cla cn ck cg Ac mc cc cl we a4.out a3.out Sp Sc f5.out
  refine hC.mono ?_
  clear hC
  rintro e w7 ⟨Aq, mq, cq, hmq, rfl, Nq, Bq⟩
  replace S0 := S0.below Bq
  replace V0 := V0.under Bq
  replace Sa := Sa.below Bq
  replace Va := Va.under Bq
  replace Sb := Sb.below Bq
  replace Vb := Vb.under Bq
  replace Sc := Sc.below Bq
  replace Vc := Vc.under Bq
  replace Sp := Sp.below Bq
  replace Vp := Vp.under Bq
  replace bb := bb.trans (Bq.mono bb.size)
  have Sq := Nq.sl
  clear Nq hmq
  try dsimp only at Sq
  try dsimp only
  obtain ⟨Vbq0, Vbq1, Vbq2, Vbq3, Vbq4, Vbr0, Vbr1, Vbr2, Vbr3, Vbr4⟩ := Vb.five
  have Vbl := Vb.lt
  obtain ⟨Vcq0, Vcq1, Vcq2, Vcq3, Vcq4, Vcr0, Vcr1, Vcr2, Vcr3, Vcr4⟩ := Vc.five
  have Vcl := Vc.lt
  replace S0 := S0.alloc (.cells #[.int .i64 la, .int .i64 n, .int .i64 k, .int .i64 g, .slice Aq mq cq] 25)
  replace V0 := V0.alloc (.cells #[.int .i64 la, .int .i64 n, .int .i64 k, .int .i64 g, .slice Aq mq cq] 25)
  replace Sa := Sa.alloc (.cells #[.int .i64 la, .int .i64 n, .int .i64 k, .int .i64 g, .slice Aq mq cq] 25)
  replace Va := Va.alloc (.cells #[.int .i64 la, .int .i64 n, .int .i64 k, .int .i64 g, .slice Aq mq cq] 25)
  replace Sb := Sb.alloc (.cells #[.int .i64 la, .int .i64 n, .int .i64 k, .int .i64 g, .slice Aq mq cq] 25)
  replace Vb := Vb.alloc (.cells #[.int .i64 la, .int .i64 n, .int .i64 k, .int .i64 g, .slice Aq mq cq] 25)
  replace Sc := Sc.alloc (.cells #[.int .i64 la, .int .i64 n, .int .i64 k, .int .i64 g, .slice Aq mq cq] 25)
  replace Vc := Vc.alloc (.cells #[.int .i64 la, .int .i64 n, .int .i64 k, .int .i64 g, .slice Aq mq cq] 25)
  replace Sp := Sp.alloc (.cells #[.int .i64 la, .int .i64 n, .int .i64 k, .int .i64 g, .slice Aq mq cq] 25)
  replace Vp := Vp.alloc (.cells #[.int .i64 la, .int .i64 n, .int .i64 k, .int .i64 g, .slice Aq mq cq] 25)
  replace Sq := Sq.alloc (.cells #[.int .i64 la, .int .i64 n, .int .i64 k, .int .i64 g, .slice Aq mq cq] 25)
  replace bb := bb.alloc bb.size (.cells #[.int .i64 la, .int .i64 n, .int .i64 k, .int .i64 g, .slice Aq mq cq] 25)
  have Vq := Blk.new w7 #[.int .i64 la, .int .i64 n, .int .i64 k, .int .i64 g, .slice Aq mq cq] 25
  go_wp2_with fail
  clear Vbq0 Vbq1 Vbq2 Vbq3 Vbq4 Vbr0 Vbr1 Vbr2 Vbr3 Vbr4
  clear Vcq0 Vcq1 Vcq2 Vcq3 Vcq4 Vcr0 Vcr1 Vcr2 Vcr3 Vcr4
  generalize (w7.alloc (.cells #[.int .i64 la, .int .i64 n, .int .i64 k, .int .i64 g, .slice Aq mq cq] 25)) = wf at *
  have hC := eJoin_ok bla bn bk bg Ab mb cb bl cla cn ck cg Ac mc cc cl wf a2.out a3.out Sb Sc f6.out
  refine hC.mono ?_
  clear hC
  rintro e w8 ⟨Ar, mr, cr, hmr, rfl, Nr, Br⟩
  replace S0 := S0.below Br
  replace V0 := V0.under Br
  replace Sa := Sa.below Br
  replace Va := Va.under Br
  replace Sb := Sb.below Br
  replace Vb := Vb.under Br
  replace Sc := Sc.below Br
  replace Vc := Vc.under Br
  replace Sp := Sp.below Br
  replace Vp := Vp.under Br
  replace Sq := Sq.below Br
  replace Vq := Vq.under Br
  replace bb := bb.trans (Br.mono bb.size)
  have Sr := Nr.sl
  clear Nr hmr
  try dsimp only at Sr
  try dsimp only
  obtain ⟨Vaq0, Vaq1, Vaq2, Vaq3, Vaq4, Var0, Var1, Var2, Var3, Var4⟩ := Va.five
  have Val := Va.lt
  replace S0 := S0.alloc (.cells #[.int .i64 rla, .int .i64 rn, .int .i64 rk, .int .i64 rg, .slice Ar mr cr] 25)
  replace V0 := V0.alloc (.cells #[.int .i64 rla, .int .i64 rn, .int .i64 rk, .int .i64 rg, .slice Ar mr cr] 25)
  replace Sa := Sa.alloc (.cells #[.int .i64 rla, .int .i64 rn, .int .i64 rk, .int .i64 rg, .slice Ar mr cr] 25)
  replace Va := Va.alloc (.cells #[.int .i64 rla, .int .i64 rn, .int .i64 rk, .int .i64 rg, .slice Ar mr cr] 25)
  replace Sb := Sb.alloc (.cells #[.int .i64 rla, .int .i64 rn, .int .i64 rk, .int .i64 rg, .slice Ar mr cr] 25)
  replace Vb := Vb.alloc (.cells #[.int .i64 rla, .int .i64 rn, .int .i64 rk, .int .i64 rg, .slice Ar mr cr] 25)
  replace Sc := Sc.alloc (.cells #[.int .i64 rla, .int .i64 rn, .int .i64 rk, .int .i64 rg, .slice Ar mr cr] 25)
  replace Vc := Vc.alloc (.cells #[.int .i64 rla, .int .i64 rn, .int .i64 rk, .int .i64 rg, .slice Ar mr cr] 25)
  replace Sp := Sp.alloc (.cells #[.int .i64 rla, .int .i64 rn, .int .i64 rk, .int .i64 rg, .slice Ar mr cr] 25)
  replace Vp := Vp.alloc (.cells #[.int .i64 rla, .int .i64 rn, .int .i64 rk, .int .i64 rg, .slice Ar mr cr] 25)
  replace Sq := Sq.alloc (.cells #[.int .i64 rla, .int .i64 rn, .int .i64 rk, .int .i64 rg, .slice Ar mr cr] 25)
  replace Vq := Vq.alloc (.cells #[.int .i64 rla, .int .i64 rn, .int .i64 rk, .int .i64 rg, .slice Ar mr cr] 25)
  replace Sr := Sr.alloc (.cells #[.int .i64 rla, .int .i64 rn, .int .i64 rk, .int .i64 rg, .slice Ar mr cr] 25)
  replace bb := bb.alloc bb.size (.cells #[.int .i64 rla, .int .i64 rn, .int .i64 rk, .int .i64 rg, .slice Ar mr cr] 25)
  have Vr := Blk.new w8 #[.int .i64 rla, .int .i64 rn, .int .i64 rk, .int .i64 rg, .slice Ar mr cr] 25
  obtain ⟨Vrq0, Vrq1, Vrq2, Vrq3, Vrq4, _⟩ := Vr.five
  go_wp2_with fail
  clear Vaq0 Vaq1 Vaq2 Vaq3 Vaq4 Var0 Var1 Var2 Var3 Var4
  generalize (w8.alloc (.cells #[.int .i64 rla, .int .i64 rn, .int .i64 rk, .int .i64 rg, .slice Ar mr cr] 25)) = wg at *
  clear Vrq0 Vrq1 Vrq2 Vrq3 Vrq4
  have hC := eJoin_ok ala an ak ag Aa ma ca al rla rn rk rg Ar mr cr rl wg a1.out a5.out Sa Sr f7.out
  refine hC.mono ?_
  clear hC
  rintro e w9 ⟨As, ms, cs, hms, rfl, Ns, Bs⟩
  replace S0 := S0.below Bs
  replace V0 := V0.under Bs
  replace Sa := Sa.below Bs
  replace Va := Va.under Bs
  replace Sb := Sb.below Bs
  replace Vb := Vb.under Bs
  replace Sc := Sc.below Bs
  replace Vc := Vc.under Bs
  replace Sp := Sp.below Bs
  replace Vp := Vp.under Bs
  replace Sq := Sq.below Bs
  replace Vq := Vq.under Bs
  replace Sr := Sr.below Bs
  replace Vr := Vr.under Bs
  replace bb := bb.trans (Bs.mono bb.size)
  have Ss := Ns.sl
  clear Ns hms
  try dsimp only at Ss
  try dsimp only
  obtain ⟨Vaq0, Vaq1, Vaq2, Vaq3, Vaq4, Var0, Var1, Var2, Var3, Var4⟩ := Va.five
  have Val := Va.lt
  obtain ⟨Vcq0, Vcq1, Vcq2, Vcq3, Vcq4, Vcr0, Vcr1, Vcr2, Vcr3, Vcr4⟩ := Vc.five
  have Vcl := Vc.lt
  replace S0 := S0.alloc (.cells #[.int .i64 la, .int .i64 n, .int .i64 k, .int .i64 g, .slice As ms cs] 25)
  replace V0 := V0.alloc (.cells #[.int .i64 la, .int .i64 n, .int .i64 k, .int .i64 g, .slice As ms cs] 25)
  replace Sa := Sa.alloc (.cells #[.int .i64 la, .int .i64 n, .int .i64 k, .int .i64 g, .slice As ms cs] 25)
  replace Va := Va.alloc (.cells #[.int .i64 la, .int .i64 n, .int .i64 k, .int .i64 g, .slice As ms cs] 25)
  replace Sb := Sb.alloc (.cells #[.int .i64 la, .int .i64 n, .int .i64 k, .int .i64 g, .slice As ms cs] 25)
  replace Vb := Vb.alloc (.cells #[.int .i64 la, .int .i64 n, .int .i64 k, .int .i64 g, .slice As ms cs] 25)
  replace Sc := Sc.alloc (.cells #[.int .i64 la, .int .i64 n, .int .i64 k, .int .i64 g, .slice As ms cs] 25)
  replace Vc := Vc.alloc (.cells #[.int .i64 la, .int .i64 n, .int .i64 k, .int .i64 g, .slice As ms cs] 25)
  replace Sp := Sp.alloc (.cells #[.int .i64 la, .int .i64 n, .int .i64 k, .int .i64 g, .slice As ms cs] 25)
  replace Vp := Vp.alloc (.cells #[.int .i64 la, .int .i64 n, .int .i64 k, .int .i64 g, .slice As ms cs] 25)
  replace Sq := Sq.alloc (.cells #[.int .i64 la, .int .i64 n, .int .i64 k, .int .i64 g, .slice As ms cs] 25)
  replace Vq := Vq.alloc (.cells #[.int .i64 la, .int .i64 n, .int .i64 k, .int .i64 g, .slice As ms cs] 25)
  replace Sr := Sr.alloc (.cells #[.int .i64 la, .int .i64 n, .int .i64 k, .int .i64 g, .slice As ms cs] 25)
  replace Vr := Vr.alloc (.cells #[.int .i64 la, .int .i64 n, .int .i64 k, .int .i64 g, .slice As ms cs] 25)
  replace Ss := Ss.alloc (.cells #[.int .i64 la, .int .i64 n, .int .i64 k, .int .i64 g, .slice As ms cs] 25)
  replace bb := bb.alloc bb.size (.cells #[.int .i64 la, .int .i64 n, .int .i64 k, .int .i64 g, .slice As ms cs] 25)
  have Vs := Blk.new w9 #[.int .i64 la, .int .i64 n, .int .i64 k, .int .i64 g, .slice As ms cs] 25
  go_wp2_with fail
  clear Vaq0 Vaq1 Vaq2 Vaq3 Vaq4 Var0 Var1 Var2 Var3 Var4
  clear Vcq0 Vcq1 Vcq2 Vcq3 Vcq4 Vcr0 Vcr1 Vcr2 Vcr3 Vcr4
  generalize (w9.alloc (.cells #[.int .i64 la, .int .i64 n, .int .i64 k, .int .i64 g, .slice As ms cs] 25)) = wh at *
  have hC := eJoin_no ala an ak ag Aa ma ca al cla cn ck cg Ac mc cc cl wh a1.out a3.out Sa Sc f8.out
  refine hC.mono ?_
  clear hC
  rintro e w10 ⟨Az, mz, cz, hmz, rfl, Nz, Bz⟩
  replace S0 := S0.below Bz
  replace V0 := V0.under Bz
  replace Sa := Sa.below Bz
  replace Va := Va.under Bz
  replace Sb := Sb.below Bz
  replace Vb := Vb.under Bz
  replace Sc := Sc.below Bz
  replace Vc := Vc.under Bz
  replace Sp := Sp.below Bz
  replace Vp := Vp.under Bz
  replace Sq := Sq.below Bz
  replace Vq := Vq.under Bz
  replace Sr := Sr.below Bz
  replace Vr := Vr.under Bz
  replace Ss := Ss.below Bz
  replace Vs := Vs.under Bz
  replace bb := bb.trans (Bz.mono bb.size)
  have Sz := Nz.sl
  clear Nz hmz
  try dsimp only at Sz
  try dsimp only
  obtain ⟨Vqq0, Vqq1, Vqq2, Vqq3, Vqq4, Vqr0, Vqr1, Vqr2, Vqr3, Vqr4⟩ := Vq.five
  have Vql := Vq.lt
  obtain ⟨Vsq0, Vsq1, Vsq2, Vsq3, Vsq4, Vsr0, Vsr1, Vsr2, Vsr3, Vsr4⟩ := Vs.five
  have Vsl := Vs.lt
  replace S0 := S0.alloc (.cells #[.int .i64 0, .int .i64 0, .int .i64 0, .int .i64 0, .slice Az mz cz] 25)
  replace V0 := V0.alloc (.cells #[.int .i64 0, .int .i64 0, .int .i64 0, .int .i64 0, .slice Az mz cz] 25)
  replace Sa := Sa.alloc (.cells #[.int .i64 0, .int .i64 0, .int .i64 0, .int .i64 0, .slice Az mz cz] 25)
  replace Va := Va.alloc (.cells #[.int .i64 0, .int .i64 0, .int .i64 0, .int .i64 0, .slice Az mz cz] 25)
  replace Sb := Sb.alloc (.cells #[.int .i64 0, .int .i64 0, .int .i64 0, .int .i64 0, .slice Az mz cz] 25)
  replace Vb := Vb.alloc (.cells #[.int .i64 0, .int .i64 0, .int .i64 0, .int .i64 0, .slice Az mz cz] 25)
  replace Sc := Sc.alloc (.cells #[.int .i64 0, .int .i64 0, .int .i64 0, .int .i64 0, .slice Az mz cz] 25)
  replace Vc := Vc.alloc (.cells #[.int .i64 0, .int .i64 0, .int .i64 0, .int .i64 0, .slice Az mz cz] 25)
  replace Sp := Sp.alloc (.cells #[.int .i64 0, .int .i64 0, .int .i64 0, .int .i64 0, .slice Az mz cz] 25)
  replace Vp := Vp.alloc (.cells #[.int .i64 0, .int .i64 0, .int .i64 0, .int .i64 0, .slice Az mz cz] 25)
  replace Sq := Sq.alloc (.cells #[.int .i64 0, .int .i64 0, .int .i64 0, .int .i64 0, .slice Az mz cz] 25)
  replace Vq := Vq.alloc (.cells #[.int .i64 0, .int .i64 0, .int .i64 0, .int .i64 0, .slice Az mz cz] 25)
  replace Sr := Sr.alloc (.cells #[.int .i64 0, .int .i64 0, .int .i64 0, .int .i64 0, .slice Az mz cz] 25)
  replace Vr := Vr.alloc (.cells #[.int .i64 0, .int .i64 0, .int .i64 0, .int .i64 0, .slice Az mz cz] 25)
  replace Ss := Ss.alloc (.cells #[.int .i64 0, .int .i64 0, .int .i64 0, .int .i64 0, .slice Az mz cz] 25)
  replace Vs := Vs.alloc (.cells #[.int .i64 0, .int .i64 0, .int .i64 0, .int .i64 0, .slice Az mz cz] 25)
  replace Sz := Sz.alloc (.cells #[.int .i64 0, .int .i64 0, .int .i64 0, .int .i64 0, .slice Az mz cz] 25)
  replace bb := bb.alloc bb.size (.cells #[.int .i64 0, .int .i64 0, .int .i64 0, .int .i64 0, .slice Az mz cz] 25)
  try dsimp only [x0]
  go_wp2_with fail
  clear Vqq0 Vqq1 Vqq2 Vqq3 Vqq4 Vqr0 Vqr1 Vqr2 Vqr3 Vqr4
  clear Vsq0 Vsq1 Vsq2 Vsq3 Vsq4 Vsr0 Vsr1 Vsr2 Vsr3 Vsr4
  generalize (w10.alloc (.cells #[.int .i64 0, .int .i64 0, .int .i64 0, .int .i64 0, .slice Az mz cz] 25)) = wi at *
  have hC := fSame_eq la n k g Aq mq cq l la n k g As ms cs l wi Sq Ss rfl
  refine hC.mono ?_
  clear hC
  rintro e w11 ⟨rfl, b21⟩
  replace S0 := S0.below b21
  replace V0 := V0.under b21
  replace Sa := Sa.below b21
  replace Va := Va.under b21
  replace Sb := Sb.below b21
  replace Vb := Vb.under b21
  replace Sc := Sc.below b21
  replace Vc := Vc.under b21
  replace Sp := Sp.below b21
  replace Vp := Vp.under b21
  replace Sq := Sq.below b21
  replace Vq := Vq.under b21
  replace Sr := Sr.below b21
  replace Vr := Vr.under b21
  replace Ss := Ss.below b21
  replace Vs := Vs.under b21
  replace Sz := Sz.below b21
  replace bb := bb.trans (b21.mono bb.size)
  obtain ⟨Vqq0, Vqq1, Vqq2, Vqq3, Vqq4, Vqr0, Vqr1, Vqr2, Vqr3, Vqr4⟩ := Vq.five
  have Vql := Vq.lt
  obtain ⟨V0q0, V0q1, V0q2, V0q3, V0q4, V0r0, V0r1, V0r2, V0r3, V0r4⟩ := V0.five
  have V0l := V0.lt
  go_wp2_with fail
  clear Vqq0 Vqq1 Vqq2 Vqq3 Vqq4 Vqr0 Vqr1 Vqr2 Vqr3 Vqr4
  clear V0q0 V0q1 V0q2 V0q3 V0q4 V0r0 V0r1 V0r2 V0r3 V0r4
  have hC := fSame_eq la n k g Aq mq cq l la n k g A m c l w11 Sq S0 rfl
  refine hC.mono ?_
  clear hC
  rintro e w12 ⟨rfl, b22⟩
  replace S0 := S0.below b22
  replace V0 := V0.under b22
  replace Sa := Sa.below b22
  replace Va := Va.under b22
  replace Sb := Sb.below b22
  replace Vb := Vb.under b22
  replace Sc := Sc.below b22
  replace Vc := Vc.under b22
  replace Sp := Sp.below b22
  replace Vp := Vp.under b22
  replace Sq := Sq.below b22
  replace Vq := Vq.under b22
  replace Sr := Sr.below b22
  replace Vr := Vr.under b22
  replace Ss := Ss.below b22
  replace Vs := Vs.under b22
  replace Sz := Sz.below b22
  replace bb := bb.trans (b22.mono bb.size)
  go_wp2
  go_ret
  exact ⟨rfl, bb⟩

theorem ExtentJoins_walk (a0_0 : Int) (a0_1 : Int) (a0_2 : Int) (a0_3 : Int) (a0_4 : Option Addr) (len0_4 cap0_4 : Nat) (z0_4 : List Int) (a1 : Int) (a2 : Int) (w : World) (w0_0 : (Lit.int .i64 a0_0).wf = true) (w0_1 : (Lit.int .i64 a0_1).wf = true) (w0_2 : (Lit.int .i64 a0_2).wf = true) (w0_3 : (Lit.int .i64 a0_3).wf = true) (w0_4 : IsRow .u8 w a0_4 len0_4 cap0_4 z0_4) (w1 : (Lit.int .u8 a1).wf = true) (w2 : (Lit.int .u8 a2).wf = true) :
    Calls Try.prog 8 #[.agg #[.int .i64 a0_0, .int .i64 a0_1, .int .i64 a0_2, .int .i64 a0_3, .slice a0_4 len0_4 cap0_4], .int .u8 a1, .int .u8 a2] w (AwakePost w) := by
  obtain ⟨l, h⟩ := w0_4.bytes
  exact joins_core a0_0 a0_1 a0_2 a0_3 a0_4 len0_4 cap0_4 l a1 a2 w (ext_wf w0_0) (bounds_u8 w1) (bounds_u8 w2) h
end Go.Proofs.Ytfblbdkkmfnhmaa
