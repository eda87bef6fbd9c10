/-
  ExtentParts: the walk (written by gen_extparts.py).
-/
import Derived.Test.YtefodkkkbjgbiaaExtAwake
import Derived.Test.YtefodkkkbjgbiaaArgs
import Derived.Test.YtefodkkkbjgbiaaJoin
namespace Go.Wag
open Go.RowKit
set_option linter.unusedVariables false
theorem cut_is {x : Xp} (h : x.ok = true) {s e a q : Int} (ha : 0 ≤ a) (ha2 : a ≤ 64) (hq : 0 ≤ q) (hq2 : q ≤ 64) (hs : xlo x a = s) (he : xhi x a q = e) : xcut x a q = if s < e then some (xpart x s e) else none := by
  unfold xcut
  rw [hs, he]
  by_cases hse : s < e
  · rw [if_pos ⟨h, ha, ha2, hq, hq2, hse⟩, if_pos hse]
  · rw [if_neg (fun hh => hse hh.2.2.2.2.2), if_neg hse]
theorem ep_tmod {a d : Int} (ha : 0 ≤ a) (hd : 0 < d) : 0 ≤ Int.tmod a d ∧ Int.tmod a d < d := by
  rw [Int.tmod_eq_emod_of_nonneg ha]
  exact ⟨Int.emod_nonneg a (by omega), Int.emod_lt_of_pos a hd⟩
/-- What ExtentParts reckons. -/
theorem ep_nums {la n i j q : Int} (h0 : 0 ≤ la) (h1 : la + n ≤ 64) (h2 : 2 ≤ n) (hi : 0 ≤ i) (hj : 0 ≤ j) (hq : 0 ≤ q) : ∃ d1 q1 kk ek f0 m0 : Int, wrap64 (n - 1) = d1 ∧ ¬ d1 = 0 ∧ Int.tmod i d1 = q1 ∧ wrap64 (1 + q1) = kk ∧ wrap64 (la + kk) = ek ∧ Int.tmod j 65 = f0 ∧ Int.tmod q 65 = m0 ∧
    (la < ek ∧ ek < la + n ∧ 0 ≤ f0 ∧ f0 ≤ 64 ∧ 0 ≤ m0 ∧ m0 ≤ 64) := by
  obtain ⟨a1, a2⟩ := ep_tmod hi (show 0 < n - 1 by omega)
  generalize hq1 : Int.tmod i (n - 1) = q1 at a1 a2
  obtain ⟨b1, b2⟩ := ep_tmod hj (show (0 : Int) < 65 by omega)
  obtain ⟨c1, c2⟩ := ep_tmod hq (show (0 : Int) < 65 by omega)
  refine ⟨n - 1, q1, 1 + q1, la + (1 + q1), _, _, ?_, by omega, hq1, ?_, ?_, rfl, rfl, by omega, by omega, b1, by omega, c1, by omega⟩
  all_goals (unfold wrap64; omega)
/-- A cut of a cut. -/
theorem ep_twice {x : Xp} (h : x.ok = true) {ek f m : Int} (h1 : x.la < ek) (h2 : ek < x.la + x.n) (hf : 0 ≤ f) (hf2 : f ≤ 64) (hm : 0 ≤ m) (hm2 : m ≤ 64) : xcut (xpart x x.la ek) f m = xcut ((xcut x f m).getD x0) 0 ek := by
  have ax := Xp.all h
  have oa := xpart_ok h (Int.le_refl x.la) h1 (by omega)
  have e1 := cut_is oa hf hf2 hm hm2 (s := max x.la f) (e := min ek (f + m)) rfl (by
    show min (x.la + (ek - x.la)) (f + m) = _
    omega)
  have e2 := cut_is h hf hf2 hm hm2 (s := max x.la f) (e := min (x.la + x.n) (f + m)) rfl rfl
  by_cases hd : max x.la f < min (x.la + x.n) (f + m)
  · rw [if_pos hd] at e2
    rw [e2, Option.getD_some]
    have od := xpart_ok h (s := max x.la f) (e := min (x.la + x.n) (f + m)) (by omega) hd (by omega)
    have e3 := cut_is od (a := 0) (q := ek) (by omega) (by omega) (by omega) (by omega) (s := max x.la f) (e := min ek (f + m)) (by
      show max (max x.la f) 0 = _
      omega) (by
      show min (max x.la f + (min (x.la + x.n) (f + m) - max x.la f)) (0 + ek) = _
      omega)
    rw [e1, e3]
    by_cases hc : max x.la f < min ek (f + m)
    · rw [if_pos hc, if_pos hc, xpart_part (Int.le_refl _) (by omega) (by omega) (by omega), xpart_part (by omega) (by omega) (by omega) (by omega)]
    · rw [if_neg hc, if_neg hc]
  · rw [if_neg hd] at e2
    rw [e2, e1, if_neg (by omega)]
    rfl
theorem ep_facts {x : Xp} (h : x.ok = true) {ek : Int} (h1 : x.la < ek) (h2 : ek < x.la + x.n) : ∃ a b : Xp, xcut x 0 ek = some a ∧ xcut x ek 64 = some b ∧ xjoin a b = some x ∧ xjoins a b = true ∧ xbytes a ++ xbytes b = xbytes x ∧ a.la ≤ 9223372036854775807 ∧ b.la ≤ 9223372036854775807 ∧ a = xpart x x.la ek := by
  have ax := Xp.all h
  obtain ⟨j1, j2⟩ := xpart_join h (Int.le_refl x.la) h1 h2 (Int.le_refl _)
  rw [xpart_all h] at j2
  have oa := xpart_ok h (Int.le_refl x.la) h1 (by omega)
  have ob := xpart_ok h (s := ek) (e := x.la + x.n) (by omega) h2 (Int.le_refl _)
  refine ⟨xpart x x.la ek, xpart x ek (x.la + x.n), ?_, ?_, ?_, j1, ?_, ?_, ?_, rfl⟩
  · rw [cut_is h (by omega) (by omega) (by omega) (by omega) (s := x.la) (e := ek) (by unfold xlo; omega) (by unfold xhi; omega), if_pos h1]
  · rw [cut_is h (by omega) (by omega) (by omega) (by omega) (s := ek) (e := x.la + x.n) (by unfold xlo; omega) (by unfold xhi; omega), if_pos h2]
  · unfold xjoin
    rw [if_pos j1, j2]
  · unfold xbytes
    rw [if_pos oa, if_pos ob, if_pos h, ← xby_both j1, j2]
  · show x.la ≤ _
    omega
  · show ek ≤ _
    omega
theorem xbytes_max {x : Xp} (h : x.ok = true) : (xbytes x).length ≤ 2048 := by
  have ax := Xp.all h
  have := xby_length h
  unfold xbytes
  rw [if_pos h]
  omega
theorem cut_la (x : Xp) (a q : Int) : ((xcut x a q).getD x0).la ≤ 9223372036854775807 := by
  cases hc : xcut x a q with
  | none => show (0 : Int) ≤ _; omega
  | some y =>
    have := Xp.all (xcut_ok hc)
    show y.la ≤ _
    omega
end Go.Wag
namespace Go.Proofs.Ytefodkkkbjgbiaa
open Go.RowKit Go.Wag
set_option linter.unusedVariables false
set_option linter.unusedSimpArgs false
set_option maxRecDepth 100000 in
set_option maxHeartbeats 16000000 in
theorem parts_core (la n k g : Int) (A : Option Addr) (m c : Nat) (l : List UInt8) (i j q : Int) (w : World) (hla : la ≤ 9223372036854775807) (hi : 0 ≤ i ∧ i ≤ 255) (hj : 0 ≤ j ∧ j ≤ 255) (hq : 0 ≤ q ∧ q ≤ 255) (h : Sl w A m c (l.map v8)) :
    Calls Try.prog 4 #[.agg #[.int .i64 la, .int .i64 n, .int .i64 k, .int .i64 g, .slice A m c], .int .u8 i, .int .u8 j, .int .u8 q] w (AwakePost w) := by
  have hl : l.length = m := h.len8
  cases r1 : xchk la n k g m
  · skip
    have bb := Below.refl w.heap.size w
    have S0 := h
    go_enter Try.func4, Try.ntmps4
    replace S0 := S0.alloc (.cells #[.int .i64 la, .int .i64 n, .int .i64 k, .int .i64 g, .slice A m c] 35)
    replace bb := bb.alloc bb.size (.cells #[.int .i64 la, .int .i64 n, .int .i64 k, .int .i64 g, .slice A m c] 35)
    have Vx := Blk.new w #[.int .i64 la, .int .i64 n, .int .i64 k, .int .i64 g, .slice A m c] 35
    go_wp2_with fail
    generalize (w.alloc (.cells #[.int .i64 la, .int .i64 n, .int .i64 k, .int .i64 g, .slice A m c] 35)) = wa at *
    have hC := awake7_any wa
    refine hC.mono ?_
    clear hC
    rintro e w1 ⟨rfl, b1⟩
    replace S0 := S0.below b1
    replace Vx := Vx.under b1
    replace bb := bb.trans (b1.mono bb.size)
    obtain ⟨Vxq0, Vxq1, Vxq2, Vxq3, Vxq4, Vxr0, Vxr1, Vxr2, Vxr3, Vxr4⟩ := Vx.five
    have Vxl := Vx.lt
    go_wp2_with fail
    clear Vxq0 Vxq1 Vxq2 Vxq3 Vxq4 Vxr0 Vxr1 Vxr2 Vxr3 Vxr4
    have hC := eCheck_any la n k g A m c w1 hla
    refine hC.mono ?_
    clear hC
    rintro e w2 ⟨rfl, b2⟩
    replace S0 := S0.below b2
    replace Vx := Vx.under b2
    replace bb := bb.trans (b2.mono bb.size)
    rw [r1]
    obtain ⟨Vxq0, Vxq1, Vxq2, Vxq3, Vxq4, Vxr0, Vxr1, Vxr2, Vxr3, Vxr4⟩ := Vx.five
    have Vxl := Vx.lt
    go_wp2
    go_ret
    exact ⟨rfl, bb⟩
  by_cases hn2 : n < 2
  · skip
    have bb := Below.refl w.heap.size w
    have S0 := h
    go_enter Try.func4, Try.ntmps4
    replace S0 := S0.alloc (.cells #[.int .i64 la, .int .i64 n, .int .i64 k, .int .i64 g, .slice A m c] 35)
    replace bb := bb.alloc bb.size (.cells #[.int .i64 la, .int .i64 n, .int .i64 k, .int .i64 g, .slice A m c] 35)
    have Vx := Blk.new w #[.int .i64 la, .int .i64 n, .int .i64 k, .int .i64 g, .slice A m c] 35
    go_wp2_with fail
    generalize (w.alloc (.cells #[.int .i64 la, .int .i64 n, .int .i64 k, .int .i64 g, .slice A m c] 35)) = wa at *
    have hC := awake7_any wa
    refine hC.mono ?_
    clear hC
    rintro e w1 ⟨rfl, b1⟩
    replace S0 := S0.below b1
    replace Vx := Vx.under b1
    replace bb := bb.trans (b1.mono bb.size)
    obtain ⟨Vxq0, Vxq1, Vxq2, Vxq3, Vxq4, Vxr0, Vxr1, Vxr2, Vxr3, Vxr4⟩ := Vx.five
    have Vxl := Vx.lt
    go_wp2_with fail
    clear Vxq0 Vxq1 Vxq2 Vxq3 Vxq4 Vxr0 Vxr1 Vxr2 Vxr3 Vxr4
    have hC := eCheck_any la n k g A m c w1 hla
    refine hC.mono ?_
    clear hC
    rintro e w2 ⟨rfl, b2⟩
    replace S0 := S0.below b2
    replace Vx := Vx.under b2
    replace bb := bb.trans (b2.mono bb.size)
    rw [r1]
    obtain ⟨Vxq0, Vxq1, Vxq2, Vxq3, Vxq4, Vxr0, Vxr1, Vxr2, Vxr3, Vxr4⟩ := Vx.five
    have Vxl := Vx.lt
    go_wp2
    go_ret
    exact ⟨rfl, bb⟩
  have hok : (⟨la, n, k, g, l⟩ : Xp).ok = true := by
    have : (⟨la, n, k, g, l⟩ : Xp).ok = xchk la n k g m := by simp [Xp.ok, hl]
    rw [this, r1]
  obtain ⟨x1, x2, x3, _⟩ := Xp.all hok
  dsimp only at x1 x2 x3
  obtain ⟨d1, q1, kk, ek, f0, m0, t1, t2, t3, t4, t5, t6, t7, t8, t9, t10, t11, t12, t13⟩ := ep_nums x1 x3 (show 2 ≤ n by omega) hi.1 hj.1 hq.1
  obtain ⟨a, b, u1, u2, u3, u4, u5, u6, u7, u8⟩ := ep_facts hok (ek := ek) t8 t9
  have hmx := xbytes_max hok
  have htw := ep_twice hok (ek := ek) (f := f0) (m := m0) t8 t9 t10 t11 t12 t13
  rw [← u8] at htw
  have hdl := cut_la ⟨la, n, k, g, l⟩ f0 m0
  have hck : (xcut ⟨la, n, k, g, l⟩ f0 m0).isSome = true → ((xcut ⟨la, n, k, g, l⟩ f0 m0).getD x0).ok = true := fun hs => by
    cases hc : xcut ⟨la, n, k, g, l⟩ f0 m0 with
    | none => rw [hc] at hs; cases hs
    | some y => exact xcut_ok hc
  obtain ⟨yd, hyd⟩ : ∃ y, Hid ((xcut ⟨la, n, k, g, l⟩ f0 m0).getD x0 = y) := ⟨_, rfl⟩
  obtain ⟨bd, hbd⟩ : ∃ y, Hid ((xcut ⟨la, n, k, g, l⟩ f0 m0).isSome = y) := ⟨_, rfl⟩
  rw [hyd.out] at htw hdl hck
  rw [hbd.out] at hck
  obtain ⟨yf, hyf⟩ : ∃ y, Hid ((xcut a f0 m0).getD x0 = y) := ⟨_, rfl⟩
  obtain ⟨bf, hbf⟩ : ∃ y, Hid ((xcut a f0 m0).isSome = y) := ⟨_, rfl⟩
  have hyg : (xcut yd 0 ek).getD x0 = yf := by rw [← htw]; exact hyf.out
  have hbg : (xcut yd 0 ek).isSome = bf := by rw [← htw]; exact hbf.out
  obtain ⟨dla, dn, dk, dg, dl⟩ := yd
  obtain ⟨fla, fn, fk, fg, fl⟩ := yf
  obtain ⟨ala, an, ak, ag, al⟩ := a
  obtain ⟨bla, bn, bk, bg, bl⟩ := b
  dsimp only at u6 u7 hdl
  have hoa : (⟨ala, an, ak, ag, al⟩ : Xp).ok = true := (xjoins_all u4).1
  have u9 : ∀ (m1 m2 : Nat), al.length = m1 → bl.length = m2 → xjF ala an ak ag m1 bla bn bk bg m2 = true := fun m1 m2 e1 e2 => by subst e1 e2; exact u4
  have hckd : bd = true → ∀ m1 : Nat, dl.length = m1 → xchk dla dn dk dg m1 = true := fun hb m1 e1 => by subst e1; exact hck hb
  obtain ⟨bx, hbx⟩ : ∃ y, Hid (xbytes ⟨la, n, k, g, l⟩ = y) := ⟨_, rfl⟩
  obtain ⟨ba, hba⟩ : ∃ y, Hid (xbytes ⟨ala, an, ak, ag, al⟩ = y) := ⟨_, rfl⟩
  obtain ⟨bb', hbb⟩ : ∃ y, Hid (xbytes ⟨bla, bn, bk, bg, bl⟩ = y) := ⟨_, rfl⟩
  rw [hbx.out] at u5 hmx
  rw [hba.out, hbb.out] at u5
  have hlen : ba.length + bb'.length ≤ 2048 := by rw [← List.length_append, u5]; exact hmx
  replace u1 := Lib.hid u1
  replace u2 := Lib.hid u2
  replace u3 := Lib.hid u3
  replace u5 := Lib.hid u5
  replace hyg := Lib.hid hyg
  replace hbg := Lib.hid hbg
  replace hlen := Lib.hid hlen
  replace u9 := Lib.hid u9
  replace hckd := Lib.hid hckd
  replace hn2 : ¬ n < 2 := hn2
  have hi1 := hi.1
  have hi2 := hi.2
  have hj1 := hj.1
  have hj2 := hj.2
  have hq1' := hq.1
  have hq2' := hq.2
  clear u4 u8 htw hck hmx hok hl t8 t9 t10 t11 t12 t13 x1 x2 x3 hi hj hq hoa
  have bb := Below.refl w.heap.size w
  have S0 := h
  go_enter Try.func4, Try.ntmps4
  replace S0 := S0.alloc (.cells #[.int .i64 la, .int .i64 n, .int .i64 k, .int .i64 g, .slice A m c] 35)
  replace bb := bb.alloc bb.size (.cells #[.int .i64 la, .int .i64 n, .int .i64 k, .int .i64 g, .slice A m c] 35)
  have Vx := Blk.new w #[.int .i64 la, .int .i64 n, .int .i64 k, .int .i64 g, .slice A m c] 35
  go_wp2_with fail
  generalize (w.alloc (.cells #[.int .i64 la, .int .i64 n, .int .i64 k, .int .i64 g, .slice A m c] 35)) = wa at *
  have hC := awake7_any wa
  refine hC.mono ?_
  clear hC
  rintro e w1 ⟨rfl, b1⟩
  replace S0 := S0.below b1
  replace Vx := Vx.under b1
  replace bb := bb.trans (b1.mono bb.size)
  obtain ⟨Vxq0, Vxq1, Vxq2, Vxq3, Vxq4, Vxr0, Vxr1, Vxr2, Vxr3, Vxr4⟩ := Vx.five
  have Vxl := Vx.lt
  go_wp2_with fail
  clear Vxq0 Vxq1 Vxq2 Vxq3 Vxq4 Vxr0 Vxr1 Vxr2 Vxr3 Vxr4
  have hC := eCheck_any la n k g A m c w1 hla
  refine hC.mono ?_
  clear hC
  rintro e w2 ⟨rfl, b2⟩
  replace S0 := S0.below b2
  replace Vx := Vx.under b2
  replace bb := bb.trans (b2.mono bb.size)
  rw [r1]
  obtain ⟨Vxq0, Vxq1, Vxq2, Vxq3, Vxq4, Vxr0, Vxr1, Vxr2, Vxr3, Vxr4⟩ := Vx.five
  have Vxl := Vx.lt
  go_wp2_with fail
  clear Vxq0 Vxq1 Vxq2 Vxq3 Vxq4 Vxr0 Vxr1 Vxr2 Vxr3 Vxr4
  have hC := eCut_ok la n k g A m c l 0 ek w2 hla S0 u1.out
  refine hC.mono ?_
  clear hC
  rintro e w3 ⟨Aa, ma, ca, hma, rfl, Na, Ba⟩
  replace S0 := S0.below Ba
  replace Vx := Vx.under Ba
  replace bb := bb.trans (Ba.mono bb.size)
  have Sa := Na.sl
  clear Na
  try dsimp only at Sa hma
  try dsimp only
  obtain ⟨Vxq0, Vxq1, Vxq2, Vxq3, Vxq4, Vxr0, Vxr1, Vxr2, Vxr3, Vxr4⟩ := Vx.five
  have Vxl := Vx.lt
  replace S0 := S0.alloc (.cells #[.int .i64 ala, .int .i64 an, .int .i64 ak, .int .i64 ag, .slice Aa ma ca] 35)
  replace Vx := Vx.alloc (.cells #[.int .i64 ala, .int .i64 an, .int .i64 ak, .int .i64 ag, .slice Aa ma ca] 35)
  replace Sa := Sa.alloc (.cells #[.int .i64 ala, .int .i64 an, .int .i64 ak, .int .i64 ag, .slice Aa ma ca] 35)
  replace bb := bb.alloc bb.size (.cells #[.int .i64 ala, .int .i64 an, .int .i64 ak, .int .i64 ag, .slice Aa ma ca] 35)
  have Va := Blk.new w3 #[.int .i64 ala, .int .i64 an, .int .i64 ak, .int .i64 ag, .slice Aa ma ca] 35
  go_wp2_with fail
  clear Vxq0 Vxq1 Vxq2 Vxq3 Vxq4 Vxr0 Vxr1 Vxr2 Vxr3 Vxr4
  generalize (w3.alloc (.cells #[.int .i64 ala, .int .i64 an, .int .i64 ak, .int .i64 ag, .slice Aa ma ca] 35)) = wb at *
  have hC := eCut_ok la n k g A m c l ek 64 wb hla S0 u2.out
  refine hC.mono ?_
  clear hC
  rintro e w4 ⟨Ab, mb, cb, hmb, rfl, Nb, Bb⟩
  replace S0 := S0.below Bb
  replace Vx := Vx.under Bb
  replace Sa := Sa.below Bb
  replace Va := Va.under Bb
  replace bb := bb.trans (Bb.mono bb.size)
  have Sb := Nb.sl
  clear Nb
  try dsimp only at Sb hmb
  try dsimp only
  obtain ⟨Vaq0, Vaq1, Vaq2, Vaq3, Vaq4, Var0, Var1, Var2, Var3, Var4⟩ := Va.five
  have Val := Va.lt
  replace S0 := S0.alloc (.cells #[.int .i64 bla, .int .i64 bn, .int .i64 bk, .int .i64 bg, .slice Ab mb cb] 35)
  replace Vx := Vx.alloc (.cells #[.int .i64 bla, .int .i64 bn, .int .i64 bk, .int .i64 bg, .slice Ab mb cb] 35)
  replace Sa := Sa.alloc (.cells #[.int .i64 bla, .int .i64 bn, .int .i64 bk, .int .i64 bg, .slice Ab mb cb] 35)
  replace Va := Va.alloc (.cells #[.int .i64 bla, .int .i64 bn, .int .i64 bk, .int .i64 bg, .slice Ab mb cb] 35)
  replace Sb := Sb.alloc (.cells #[.int .i64 bla, .int .i64 bn, .int .i64 bk, .int .i64 bg, .slice Ab mb cb] 35)
  replace bb := bb.alloc bb.size (.cells #[.int .i64 bla, .int .i64 bn, .int .i64 bk, .int .i64 bg, .slice Ab mb cb] 35)
  have Vb := Blk.new w4 #[.int .i64 bla, .int .i64 bn, .int .i64 bk, .int .i64 bg, .slice Ab mb cb] 35
  go_wp2_with fail
  clear Vaq0 Vaq1 Vaq2 Vaq3 Vaq4 Var0 Var1 Var2 Var3 Var4
  generalize (w4.alloc (.cells #[.int .i64 bla, .int .i64 bn, .int .i64 bk, .int .i64 bg, .slice Ab mb cb] 35)) = wc at *
  have hC := eJoin_ok ala an ak ag Aa ma ca al bla bn bk bg Ab mb cb bl wc u6 u7 Sa Sb u3.out
  refine hC.mono ?_
  clear hC
  rintro e w5 ⟨Ac, mc, cc, hmc, rfl, Nc, Bc⟩
  replace S0 := S0.below Bc
  replace Vx := Vx.under Bc
  replace Sa := Sa.below Bc
  replace Va := Va.under Bc
  replace Sb := Sb.below Bc
  replace Vb := Vb.under Bc
  replace bb := bb.trans (Bc.mono bb.size)
  have Sc := Nc.sl
  clear Nc
  try dsimp only at Sc hmc
  try dsimp only
  obtain ⟨Vxq0, Vxq1, Vxq2, Vxq3, Vxq4, Vxr0, Vxr1, Vxr2, Vxr3, Vxr4⟩ := Vx.five
  have Vxl := Vx.lt
  replace S0 := S0.alloc (.cells #[.int .i64 la, .int .i64 n, .int .i64 k, .int .i64 g, .slice Ac mc cc] 35)
  replace Vx := Vx.alloc (.cells #[.int .i64 la, .int .i64 n, .int .i64 k, .int .i64 g, .slice Ac mc cc] 35)
  replace Sa := Sa.alloc (.cells #[.int .i64 la, .int .i64 n, .int .i64 k, .int .i64 g, .slice Ac mc cc] 35)
  replace Va := Va.alloc (.cells #[.int .i64 la, .int .i64 n, .int .i64 k, .int .i64 g, .slice Ac mc cc] 35)
  replace Sb := Sb.alloc (.cells #[.int .i64 la, .int .i64 n, .int .i64 k, .int .i64 g, .slice Ac mc cc] 35)
  replace Vb := Vb.alloc (.cells #[.int .i64 la, .int .i64 n, .int .i64 k, .int .i64 g, .slice Ac mc cc] 35)
  replace Sc := Sc.alloc (.cells #[.int .i64 la, .int .i64 n, .int .i64 k, .int .i64 g, .slice Ac mc cc] 35)
  replace bb := bb.alloc bb.size (.cells #[.int .i64 la, .int .i64 n, .int .i64 k, .int .i64 g, .slice Ac mc cc] 35)
  have Vc := Blk.new w5 #[.int .i64 la, .int .i64 n, .int .i64 k, .int .i64 g, .slice Ac mc cc] 35
  go_wp2_with fail
  clear Vxq0 Vxq1 Vxq2 Vxq3 Vxq4 Vxr0 Vxr1 Vxr2 Vxr3 Vxr4
  generalize (w5.alloc (.cells #[.int .i64 la, .int .i64 n, .int .i64 k, .int .i64 g, .slice Ac mc cc] 35)) = wd0 at *
  have hC := fSame_eq la n k g Ac mc cc l la n k g A m c l wd0 Sc S0 rfl
  refine hC.mono ?_
  clear hC
  rintro e w6 ⟨rfl, b9⟩
  replace S0 := S0.below b9
  replace Vx := Vx.under b9
  replace Sa := Sa.below b9
  replace Va := Va.under b9
  replace Sb := Sb.below b9
  replace Vb := Vb.under b9
  replace Sc := Sc.below b9
  replace Vc := Vc.under b9
  replace bb := bb.trans (b9.mono bb.size)
  obtain ⟨Vxq0, Vxq1, Vxq2, Vxq3, Vxq4, Vxr0, Vxr1, Vxr2, Vxr3, Vxr4⟩ := Vx.five
  have Vxl := Vx.lt
  go_wp2_with fail
  clear Vxq0 Vxq1 Vxq2 Vxq3 Vxq4 Vxr0 Vxr1 Vxr2 Vxr3 Vxr4
  have hC := EPost.eq (eCut_any la n k g A m c l f0 m0 w6 hla S0) (congrArg Value.bool hbd.out) hyd.out
  refine hC.mono ?_
  clear hC
  rintro e w7 ⟨Ad, md, cd, hmd, rfl, Nd, Bd⟩
  replace S0 := S0.below Bd
  replace Vx := Vx.under Bd
  replace Sa := Sa.below Bd
  replace Va := Va.under Bd
  replace Sb := Sb.below Bd
  replace Vb := Vb.under Bd
  replace Sc := Sc.below Bd
  replace Vc := Vc.under Bd
  replace bb := bb.trans (Bd.mono bb.size)
  have Sd := Nd.sl
  clear Nd
  try dsimp only at Sd hmd
  try dsimp only
  obtain ⟨Vaq0, Vaq1, Vaq2, Vaq3, Vaq4, Var0, Var1, Var2, Var3, Var4⟩ := Va.five
  have Val := Va.lt
  replace S0 := S0.alloc (.cells #[.int .i64 dla, .int .i64 dn, .int .i64 dk, .int .i64 dg, .slice Ad md cd] 35)
  replace Vx := Vx.alloc (.cells #[.int .i64 dla, .int .i64 dn, .int .i64 dk, .int .i64 dg, .slice Ad md cd] 35)
  replace Sa := Sa.alloc (.cells #[.int .i64 dla, .int .i64 dn, .int .i64 dk, .int .i64 dg, .slice Ad md cd] 35)
  replace Va := Va.alloc (.cells #[.int .i64 dla, .int .i64 dn, .int .i64 dk, .int .i64 dg, .slice Ad md cd] 35)
  replace Sb := Sb.alloc (.cells #[.int .i64 dla, .int .i64 dn, .int .i64 dk, .int .i64 dg, .slice Ad md cd] 35)
  replace Vb := Vb.alloc (.cells #[.int .i64 dla, .int .i64 dn, .int .i64 dk, .int .i64 dg, .slice Ad md cd] 35)
  replace Sc := Sc.alloc (.cells #[.int .i64 dla, .int .i64 dn, .int .i64 dk, .int .i64 dg, .slice Ad md cd] 35)
  replace Vc := Vc.alloc (.cells #[.int .i64 dla, .int .i64 dn, .int .i64 dk, .int .i64 dg, .slice Ad md cd] 35)
  replace Sd := Sd.alloc (.cells #[.int .i64 dla, .int .i64 dn, .int .i64 dk, .int .i64 dg, .slice Ad md cd] 35)
  replace bb := bb.alloc bb.size (.cells #[.int .i64 dla, .int .i64 dn, .int .i64 dk, .int .i64 dg, .slice Ad md cd] 35)
  have Vd := Blk.new w7 #[.int .i64 dla, .int .i64 dn, .int .i64 dk, .int .i64 dg, .slice Ad md cd] 35
  go_wp2_with fail
  clear Vaq0 Vaq1 Vaq2 Vaq3 Vaq4 Var0 Var1 Var2 Var3 Var4
  generalize (w7.alloc (.cells #[.int .i64 dla, .int .i64 dn, .int .i64 dk, .int .i64 dg, .slice Ad md cd] 35)) = we at *
  have hC := EPost.eq (eCut_any ala an ak ag Aa ma ca al f0 m0 we u6 Sa) (congrArg Value.bool hbf.out) hyf.out
  refine hC.mono ?_
  clear hC
  rintro e w8 ⟨Af, mf, cf, hmf, rfl, Nf, Bf⟩
  replace S0 := S0.below Bf
  replace Vx := Vx.under Bf
  replace Sa := Sa.below Bf
  replace Va := Va.under Bf
  replace Sb := Sb.below Bf
  replace Vb := Vb.under Bf
  replace Sc := Sc.below Bf
  replace Vc := Vc.under Bf
  replace Sd := Sd.below Bf
  replace Vd := Vd.under Bf
  replace bb := bb.trans (Bf.mono bb.size)
  have Sf := Nf.sl
  clear Nf
  try dsimp only at Sf hmf
  try dsimp only
  obtain ⟨Vdq0, Vdq1, Vdq2, Vdq3, Vdq4, Vdr0, Vdr1, Vdr2, Vdr3, Vdr4⟩ := Vd.five
  have Vdl := Vd.lt
  obtain ⟨Vxq0, Vxq1, Vxq2, Vxq3, Vxq4, Vxr0, Vxr1, Vxr2, Vxr3, Vxr4⟩ := Vx.five
  have Vxl := Vx.lt
  replace S0 := S0.alloc (.cells #[.int .i64 fla, .int .i64 fn, .int .i64 fk, .int .i64 fg, .slice Af mf cf] 35)
  replace Vx := Vx.alloc (.cells #[.int .i64 fla, .int .i64 fn, .int .i64 fk, .int .i64 fg, .slice Af mf cf] 35)
  replace Sa := Sa.alloc (.cells #[.int .i64 fla, .int .i64 fn, .int .i64 fk, .int .i64 fg, .slice Af mf cf] 35)
  replace Va := Va.alloc (.cells #[.int .i64 fla, .int .i64 fn, .int .i64 fk, .int .i64 fg, .slice Af mf cf] 35)
  replace Sb := Sb.alloc (.cells #[.int .i64 fla, .int .i64 fn, .int .i64 fk, .int .i64 fg, .slice Af mf cf] 35)
  replace Vb := Vb.alloc (.cells #[.int .i64 fla, .int .i64 fn, .int .i64 fk, .int .i64 fg, .slice Af mf cf] 35)
  replace Sc := Sc.alloc (.cells #[.int .i64 fla, .int .i64 fn, .int .i64 fk, .int .i64 fg, .slice Af mf cf] 35)
  replace Vc := Vc.alloc (.cells #[.int .i64 fla, .int .i64 fn, .int .i64 fk, .int .i64 fg, .slice Af mf cf] 35)
  replace Sd := Sd.alloc (.cells #[.int .i64 fla, .int .i64 fn, .int .i64 fk, .int .i64 fg, .slice Af mf cf] 35)
  replace Vd := Vd.alloc (.cells #[.int .i64 fla, .int .i64 fn, .int .i64 fk, .int .i64 fg, .slice Af mf cf] 35)
  replace Sf := Sf.alloc (.cells #[.int .i64 fla, .int .i64 fn, .int .i64 fk, .int .i64 fg, .slice Af mf cf] 35)
  replace bb := bb.alloc bb.size (.cells #[.int .i64 fla, .int .i64 fn, .int .i64 fk, .int .i64 fg, .slice Af mf cf] 35)
  have Vf := Blk.new w8 #[.int .i64 fla, .int .i64 fn, .int .i64 fk, .int .i64 fg, .slice Af mf cf] 35
  go_wp2_with fail
  clear Vdq0 Vdq1 Vdq2 Vdq3 Vdq4 Vdr0 Vdr1 Vdr2 Vdr3 Vdr4
  clear Vxq0 Vxq1 Vxq2 Vxq3 Vxq4 Vxr0 Vxr1 Vxr2 Vxr3 Vxr4
  generalize (w8.alloc (.cells #[.int .i64 fla, .int .i64 fn, .int .i64 fk, .int .i64 fg, .slice Af mf cf] 35)) = wf at *
  have hC := EPost.eq (eCut_any dla dn dk dg Ad md cd dl 0 ek wf hdl Sd) (congrArg Value.bool hbg.out) hyg.out
  refine hC.mono ?_
  clear hC
  rintro e w9 ⟨Ag, mg, cg, hmg, rfl, Ng, Bg⟩
  replace S0 := S0.below Bg
  replace Vx := Vx.under Bg
  replace Sa := Sa.below Bg
  replace Va := Va.under Bg
  replace Sb := Sb.below Bg
  replace Vb := Vb.under Bg
  replace Sc := Sc.below Bg
  replace Vc := Vc.under Bg
  replace Sd := Sd.below Bg
  replace Vd := Vd.under Bg
  replace Sf := Sf.below Bg
  replace Vf := Vf.under Bg
  replace bb := bb.trans (Bg.mono bb.size)
  have Sg := Ng.sl
  clear Ng
  try dsimp only at Sg hmg
  try dsimp only
  obtain ⟨Vfq0, Vfq1, Vfq2, Vfq3, Vfq4, Vfr0, Vfr1, Vfr2, Vfr3, Vfr4⟩ := Vf.five
  have Vfl := Vf.lt
  replace S0 := S0.alloc (.cells #[.int .i64 fla, .int .i64 fn, .int .i64 fk, .int .i64 fg, .slice Ag mg cg] 35)
  replace Vx := Vx.alloc (.cells #[.int .i64 fla, .int .i64 fn, .int .i64 fk, .int .i64 fg, .slice Ag mg cg] 35)
  replace Sa := Sa.alloc (.cells #[.int .i64 fla, .int .i64 fn, .int .i64 fk, .int .i64 fg, .slice Ag mg cg] 35)
  replace Va := Va.alloc (.cells #[.int .i64 fla, .int .i64 fn, .int .i64 fk, .int .i64 fg, .slice Ag mg cg] 35)
  replace Sb := Sb.alloc (.cells #[.int .i64 fla, .int .i64 fn, .int .i64 fk, .int .i64 fg, .slice Ag mg cg] 35)
  replace Vb := Vb.alloc (.cells #[.int .i64 fla, .int .i64 fn, .int .i64 fk, .int .i64 fg, .slice Ag mg cg] 35)
  replace Sc := Sc.alloc (.cells #[.int .i64 fla, .int .i64 fn, .int .i64 fk, .int .i64 fg, .slice Ag mg cg] 35)
  replace Vc := Vc.alloc (.cells #[.int .i64 fla, .int .i64 fn, .int .i64 fk, .int .i64 fg, .slice Ag mg cg] 35)
  replace Sd := Sd.alloc (.cells #[.int .i64 fla, .int .i64 fn, .int .i64 fk, .int .i64 fg, .slice Ag mg cg] 35)
  replace Vd := Vd.alloc (.cells #[.int .i64 fla, .int .i64 fn, .int .i64 fk, .int .i64 fg, .slice Ag mg cg] 35)
  replace Sf := Sf.alloc (.cells #[.int .i64 fla, .int .i64 fn, .int .i64 fk, .int .i64 fg, .slice Ag mg cg] 35)
  replace Vf := Vf.alloc (.cells #[.int .i64 fla, .int .i64 fn, .int .i64 fk, .int .i64 fg, .slice Ag mg cg] 35)
  replace Sg := Sg.alloc (.cells #[.int .i64 fla, .int .i64 fn, .int .i64 fk, .int .i64 fg, .slice Ag mg cg] 35)
  replace bb := bb.alloc bb.size (.cells #[.int .i64 fla, .int .i64 fn, .int .i64 fk, .int .i64 fg, .slice Ag mg cg] 35)
  have Vg := Blk.new w9 #[.int .i64 fla, .int .i64 fn, .int .i64 fk, .int .i64 fg, .slice Ag mg cg] 35
  go_wp2_with fail
  clear Vfq0 Vfq1 Vfq2 Vfq3 Vfq4 Vfr0 Vfr1 Vfr2 Vfr3 Vfr4
  generalize (w9.alloc (.cells #[.int .i64 fla, .int .i64 fn, .int .i64 fk, .int .i64 fg, .slice Ag mg cg] 35)) = wg at *
  have hC := fSame_eq fla fn fk fg Af mf cf fl fla fn fk fg Ag mg cg fl wg Sf Sg rfl
  refine hC.mono ?_
  clear hC
  rintro e w10 ⟨rfl, b10⟩
  replace S0 := S0.below b10
  replace Vx := Vx.under b10
  replace Sa := Sa.below b10
  replace Va := Va.under b10
  replace Sb := Sb.below b10
  replace Vb := Vb.under b10
  replace Sc := Sc.below b10
  replace Vc := Vc.under b10
  replace Sd := Sd.below b10
  replace Vd := Vd.under b10
  replace Sf := Sf.below b10
  replace Vf := Vf.under b10
  replace Sg := Sg.below b10
  replace Vg := Vg.under b10
  replace bb := bb.trans (b10.mono bb.size)
  clear Vc Vf Vg Sc Sf Sg hyd hyf hyg hbd hbf hbg
  have hJ := u9.out ma mb hma.out.symm hmb.out.symm
  obtain ⟨i0, hi0, hz0, hz1, hz2⟩ := info_parts i5
  go_wp2_with fail
  cases bd
  · skip
    refine wp_region_held_drew (S := fun w' => Below w10.heap.size w10 w') (by kernel_rfl) (Below.refl _ _).drew (fun hHeld => ?_)
    try dsimp only at hHeld
    have bW : Below w10.heap.size w10 w10.drew := (Below.refl w10.heap.size w10).drew
    have Vxd := Vx.drew
    have Vad := Va.drew
    have Vbd := Vb.drew
    have Vdd := Vd.drew
    have S0d := S0.drew
    have Sad := Sa.drew
    have Sbd := Sb.drew
    have Sdd := Sd.drew
    have bbd := bb.drew
    generalize w10.drew = wd at *
    try simp only [Act.put, List.setIfInBounds_toArray, List.set_cons_zero, List.set_cons_succ]
    refine wpAnyH_take (i := 0) (v := ?_) (by simp only [List.getElem?_toArray, List.getElem?_cons_zero]; rfl) (by kernel_rfl) (by kernel_rfl) (by kernel_rfl) (by intro _ _ _ h; exact h) (Or.inl ⟨by rfl, ?_⟩) hHeld ?_
    rotate_left 1
    · intro wq hSw
      try dsimp only at hSw
      go_simp
      try (with_reducible rfl)
    try simp only [Act.put, List.setIfInBounds_toArray, List.set_cons_zero, List.set_cons_succ]
    refine wpAnyH_take (i := 1) (v := ?_) (by simp only [List.getElem?_toArray, List.getElem?_cons_succ, List.getElem?_cons_zero]; rfl) (by kernel_rfl) (by kernel_rfl) (by kernel_rfl) (by intro _ _ _ h; exact h) (Or.inl ⟨by rfl, ?_⟩) hHeld ?_
    rotate_left 1
    · intro wq hSw
      try dsimp only at hSw
      go_simp
      try (with_reducible rfl)
    try simp only [Act.put, List.setIfInBounds_toArray, List.set_cons_zero, List.set_cons_succ]
    refine wpAnyH_take (i := 2) (v := ?_) (by simp only [List.getElem?_toArray, List.getElem?_cons_succ, List.getElem?_cons_zero]; rfl) (by kernel_rfl) (by kernel_rfl) (by kernel_rfl) (by intro _ _ _ h; exact h) (Or.inl ⟨by rfl, ?_⟩) hHeld ?_
    rotate_left 1
    · intro wq hSw
      try dsimp only at hSw
      go_simp
      try (with_reducible rfl)
    try simp only [Act.put, List.setIfInBounds_toArray, List.set_cons_zero, List.set_cons_succ]
    refine wpAnyH_take (i := 3) (v := ?_) (by simp only [List.getElem?_toArray, List.getElem?_cons_succ, List.getElem?_cons_zero]; rfl) (by kernel_rfl) (by kernel_rfl) (by kernel_rfl) (by intro _ _ _ h; exact h) (Or.inl ⟨by rfl, ?_⟩) hHeld ?_
    rotate_left 1
    · intro wq hSw
      try dsimp only at hSw
      go_simp
      try (with_reducible rfl)
    try simp only [Act.put, List.setIfInBounds_toArray, List.set_cons_zero, List.set_cons_succ]
    refine wpAnyH_take (i := 4) (v := ?_) (by simp only [List.getElem?_toArray, List.getElem?_cons_succ, List.getElem?_cons_zero]; rfl) (by kernel_rfl) (by kernel_rfl) (by kernel_rfl) (by intro _ _ _ h; exact h) (Or.inl ⟨by rfl, ?_⟩) hHeld ?_
    rotate_left 1
    · intro wq hSw
      try dsimp only at hSw
      go_simp
      try (with_reducible rfl)
    try simp only [Act.put, List.setIfInBounds_toArray, List.set_cons_zero, List.set_cons_succ]
    refine wpAnyH_take (i := 5) (v := ?_) (by simp only [List.getElem?_toArray, List.getElem?_cons_succ, List.getElem?_cons_zero]; rfl) (by kernel_rfl) (by kernel_rfl) (by kernel_rfl) (by intro _ _ _ h; exact h) (Or.inl ⟨by rfl, ?_⟩) hHeld ?_
    rotate_left 1
    · intro wq hSw
      try dsimp only at hSw
      go_simp
      try (with_reducible rfl)
    try simp only [Act.put, List.setIfInBounds_toArray, List.set_cons_zero, List.set_cons_succ]
    refine wpAnyH_take (i := 6) (v := ?_) (by simp only [List.getElem?_toArray, List.getElem?_cons_succ, List.getElem?_cons_zero]; rfl) (by kernel_rfl) (by kernel_rfl) (by kernel_rfl) (by intro _ _ _ h; exact h) (Or.inl ⟨by rfl, ?_⟩) hHeld ?_
    rotate_left 1
    · intro wq hSw
      try dsimp only at hSw
      go_simp
      try (with_reducible rfl)
    try simp only [Act.put, List.setIfInBounds_toArray, List.set_cons_zero, List.set_cons_succ]
    refine wpAnyH_take (i := 7) (v := ?_) (by simp only [List.getElem?_toArray, List.getElem?_cons_succ, List.getElem?_cons_zero]; rfl) (by kernel_rfl) (by kernel_rfl) (by kernel_rfl) (by intro _ _ _ h; exact h) (Or.inl ⟨by rfl, ?_⟩) hHeld ?_
    rotate_left 1
    · intro wq hSw
      try dsimp only at hSw
      go_simp
      try (with_reducible rfl)
    try simp only [Act.put, List.setIfInBounds_toArray, List.set_cons_zero, List.set_cons_succ]
    refine wpAnyH_take (i := 8) (v := ?_) (by simp only [List.getElem?_toArray, List.getElem?_cons_succ, List.getElem?_cons_zero]; rfl) (by kernel_rfl) (by kernel_rfl) (by kernel_rfl) (by intro _ _ _ h; exact h) (Or.inl ⟨by rfl, ?_⟩) hHeld ?_
    rotate_left 1
    · intro wq hSw
      try dsimp only at hSw
      go_simp
      try (with_reducible rfl)
    try simp only [Act.put, List.setIfInBounds_toArray, List.set_cons_zero, List.set_cons_succ]
    refine wpAnyH_take (i := 9) (v := ?_) (by simp only [List.getElem?_toArray, List.getElem?_cons_succ, List.getElem?_cons_zero]; rfl) (by kernel_rfl) (by kernel_rfl) (by kernel_rfl) (by intro _ _ _ h; exact h) (Or.inl ⟨by rfl, ?_⟩) hHeld ?_
    rotate_left 1
    · intro wq hSw
      try dsimp only at hSw
      go_simp
      try (with_reducible rfl)
    try simp only [Act.put, List.setIfInBounds_toArray, List.set_cons_zero, List.set_cons_succ]
    refine wpAnyH_take (i := 10) (v := ?_) (by simp only [List.getElem?_toArray, List.getElem?_cons_succ, List.getElem?_cons_zero]; rfl) (by kernel_rfl) (by kernel_rfl) (by kernel_rfl) (by intro _ _ _ h; exact h) (Or.inl ⟨by rfl, ?_⟩) hHeld ?_
    rotate_left 1
    · intro wq hSw
      try dsimp only at hSw
      go_simp
      try (with_reducible rfl)
    try simp only [Act.put, List.setIfInBounds_toArray, List.set_cons_zero, List.set_cons_succ]
    refine wpAnyH_take (i := 11) (v := ?_) (by simp only [List.getElem?_toArray, List.getElem?_cons_succ, List.getElem?_cons_zero]; rfl) (by kernel_rfl) (by kernel_rfl) (by kernel_rfl) (by intro _ _ _ h; exact h) (Or.inl ⟨by rfl, ?_⟩) hHeld ?_
    rotate_left 1
    · intro wq hSw
      try dsimp only at hSw
      go_simp
      try (with_reducible rfl)
    try simp only [Act.put, List.setIfInBounds_toArray, List.set_cons_zero, List.set_cons_succ]
    refine wpAnyH_take (i := 12) (v := ?_) (by simp only [List.getElem?_toArray, List.getElem?_cons_succ, List.getElem?_cons_zero]; rfl) (by kernel_rfl) (by kernel_rfl) (by kernel_rfl) (by intro _ _ _ h; exact h) (Or.inl ⟨by rfl, ?_⟩) hHeld ?_
    rotate_left 1
    · intro wq hSw
      try dsimp only at hSw
      go_simp
      try (with_reducible rfl)
    try simp only [Act.put, List.setIfInBounds_toArray, List.set_cons_zero, List.set_cons_succ]
    refine wpAnyH_take (i := 13) (v := ?_) (by simp only [List.getElem?_toArray, List.getElem?_cons_succ, List.getElem?_cons_zero]; rfl) (by kernel_rfl) (by kernel_rfl) (by kernel_rfl) (by intro _ _ _ h; exact h) (Or.inl ⟨by rfl, ?_⟩) hHeld ?_
    rotate_left 1
    · intro wq hSw
      try dsimp only at hSw
      go_simp
      try (with_reducible rfl)
    try simp only [Act.put, List.setIfInBounds_toArray, List.set_cons_zero, List.set_cons_succ]
    refine wpAnyH_take (i := 14) (v := ?_) (by simp only [List.getElem?_toArray, List.getElem?_cons_succ, List.getElem?_cons_zero]; rfl) (by kernel_rfl) (by kernel_rfl) (by kernel_rfl) (by intro _ _ _ h; exact h) (Or.inl ⟨by rfl, ?_⟩) hHeld ?_
    rotate_left 1
    · intro wq hSw
      try dsimp only at hSw
      go_simp
      try (with_reducible rfl)
    try simp only [Act.put, List.setIfInBounds_toArray, List.set_cons_zero, List.set_cons_succ]
    refine wpAnyH_take (i := 15) (v := ?_) (by simp only [List.getElem?_toArray, List.getElem?_cons_succ, List.getElem?_cons_zero]; rfl) (by kernel_rfl) (by kernel_rfl) (by kernel_rfl) (by intro _ _ _ h; exact h) (Or.inl ⟨by rfl, ?_⟩) hHeld ?_
    rotate_left 1
    · intro wq hSw
      try dsimp only at hSw
      obtain ⟨y0, y1, y2, y3, y4, _⟩ := (Va.under hSw).five
      go_simp
      try (with_reducible rfl)
    try simp only [Act.put, List.setIfInBounds_toArray, List.set_cons_zero, List.set_cons_succ]
    refine wpAnyH_take (i := 16) (v := ?_) (by simp only [List.getElem?_toArray, List.getElem?_cons_succ, List.getElem?_cons_zero]; rfl) (by kernel_rfl) (by kernel_rfl) (by kernel_rfl) (by intro _ _ _ h; exact h) (Or.inl ⟨by rfl, ?_⟩) hHeld ?_
    rotate_left 1
    · intro wq hSw
      try dsimp only at hSw
      obtain ⟨y0, y1, y2, y3, y4, _⟩ := (Vb.under hSw).five
      go_simp
      try (with_reducible rfl)
    try simp only [Act.put, List.setIfInBounds_toArray, List.set_cons_zero, List.set_cons_succ]
    refine wpAnyH_ready (rs := [17]) (by kernel_rfl) (by simp) ?_
    refine AllReadyH.cons (by simp only [List.getElem?_toArray, List.getElem?_cons_succ, List.getElem?_cons_zero]; rfl) (fun K hK => ?_) AllReadyH.nil
    go_simp
    refine (eJoins_any ala an ak ag Aa ma ca bla bn bk bg Ab mb cb wd u6 u7).mono ?_
    rintro e u17 ⟨rfl, bN⟩
    rw [hJ]
    have B17 := bN
    replace Vx := Vxd.under bN
    replace Va := Vad.under bN
    replace Vb := Vbd.under bN
    replace Vd := Vdd.under bN
    replace S0 := S0d.below bN
    replace Sa := Sad.below bN
    replace Sb := Sbd.below bN
    replace Sd := Sdd.below bN
    replace bb := bbd.trans (bN.mono bbd.size)
    clear bN Vxd Vad Vbd Vdd S0d Sad Sbd Sdd bbd
    go_wp2_with fail
    refine hK.out _ _ (bW.trans (B17.mono bW.size)) (fun _ => wpAnyH_stronger (S' := fun w' => Below u17.heap.size u17 w') (fun w' h => (bW.trans (B17.mono bW.size)).trans (h.mono (bW.trans (B17.mono bW.size)).size)) _ _ _ _ ?_)
    clear hK K hHeld
    have hHeld := Below.refl u17.heap.size u17
    clear B17 bW
    try simp only [Act.put, List.setIfInBounds_toArray, List.set_cons_zero, List.set_cons_succ]
    refine wpAnyH_take (i := 18) (v := ?_) (by simp only [List.getElem?_toArray, List.getElem?_cons_succ, List.getElem?_cons_zero]; rfl) (by kernel_rfl) (by kernel_rfl) (by kernel_rfl) (by intro _ _ _ h; exact h) (Or.inl ⟨by rfl, ?_⟩) hHeld ?_
    rotate_left 1
    · intro wq hSw
      try dsimp only at hSw
      go_simp
      try (with_reducible rfl)
    try simp only [Act.put, List.setIfInBounds_toArray, List.set_cons_zero, List.set_cons_succ]
    refine wpAnyH_take (i := 19) (v := ?_) (by simp only [List.getElem?_toArray, List.getElem?_cons_succ, List.getElem?_cons_zero]; rfl) (by kernel_rfl) (by kernel_rfl) (by kernel_rfl) (by intro _ _ _ h; exact h) (Or.inl ⟨by rfl, ?_⟩) hHeld ?_
    rotate_left 1
    · intro wq hSw
      try dsimp only at hSw
      go_simp
      try (with_reducible rfl)
    try simp only [Act.put, List.setIfInBounds_toArray, List.set_cons_zero, List.set_cons_succ]
    refine wpAnyH_take (i := 20) (v := ?_) (by simp only [List.getElem?_toArray, List.getElem?_cons_succ, List.getElem?_cons_zero]; rfl) (by kernel_rfl) (by kernel_rfl) (by kernel_rfl) (by intro _ _ _ h; exact h) (Or.inl ⟨by rfl, ?_⟩) hHeld ?_
    rotate_left 1
    · intro wq hSw
      try dsimp only at hSw
      obtain ⟨y0, y1, y2, y3, y4, _⟩ := (Vx.under hSw).five
      go_simp
      try (with_reducible rfl)
    try simp only [Act.put, List.setIfInBounds_toArray, List.set_cons_zero, List.set_cons_succ]
    refine wpAnyH_take (i := 23) (v := ?_) (by simp only [List.getElem?_toArray, List.getElem?_cons_succ, List.getElem?_cons_zero]; rfl) (by kernel_rfl) (by kernel_rfl) (by kernel_rfl) (by intro _ _ _ h; exact h) (Or.inl ⟨by rfl, ?_⟩) hHeld ?_
    rotate_left 1
    · intro wq hSw
      try dsimp only at hSw
      obtain ⟨y0, y1, y2, y3, y4, _⟩ := (Va.under hSw).five
      go_simp
      try (with_reducible rfl)
    try simp only [Act.put, List.setIfInBounds_toArray, List.set_cons_zero, List.set_cons_succ]
    refine wpAnyH_take (i := 25) (v := ?_) (by simp only [List.getElem?_toArray, List.getElem?_cons_succ, List.getElem?_cons_zero]; rfl) (by kernel_rfl) (by kernel_rfl) (by kernel_rfl) (by intro _ _ _ h; exact h) (Or.inl ⟨by rfl, ?_⟩) hHeld ?_
    rotate_left 1
    · intro wq hSw
      try dsimp only at hSw
      obtain ⟨y0, y1, y2, y3, y4, _⟩ := (Vb.under hSw).five
      go_simp
      try (with_reducible rfl)
    try simp only [Act.put, List.setIfInBounds_toArray, List.set_cons_zero, List.set_cons_succ]
    refine wpAnyH_ready (rs := [21]) (by kernel_rfl) (by simp) ?_
    refine AllReadyH.cons (by simp only [List.getElem?_toArray, List.getElem?_cons_succ, List.getElem?_cons_zero]; rfl) (fun K hK => ?_) AllReadyH.nil
    have hC := eBytes_any la n k g A m c l u17 hla S0
    rw [hbx.out] at hC
    go_simp
    refine hC.mono ?_
    clear hC
    rintro e u21 ⟨A1, n1, c1, rfl, N1, bN⟩
    have S1 := N1.sl
    clear N1
    have B21 := bN
    replace Vx := Vx.under bN
    replace Va := Va.under bN
    replace Vb := Vb.under bN
    replace Vd := Vd.under bN
    replace S0 := S0.below bN
    replace Sa := Sa.below bN
    replace Sb := Sb.below bN
    replace Sd := Sd.below bN
    replace bb := bb.trans (bN.mono bb.size)
    clear bN
    go_wp2_with fail
    refine hK.out _ _ (B21) (fun _ => wpAnyH_stronger (S' := fun w' => Below u21.heap.size u21 w') (fun w' h => B21.trans (h.mono B21.size)) _ _ _ _ ?_)
    clear hK K hHeld
    have hHeld := Below.refl u21.heap.size u21
    clear B21
    try simp only [Act.put, List.setIfInBounds_toArray, List.set_cons_zero, List.set_cons_succ]
    refine wpAnyH_take (i := 22) (v := ?_) (by simp only [List.getElem?_toArray, List.getElem?_cons_succ, List.getElem?_cons_zero]; rfl) (by kernel_rfl) (by kernel_rfl) (by kernel_rfl) (by intro _ _ _ h; exact h) (Or.inl ⟨by rfl, ?_⟩) hHeld ?_
    rotate_left 1
    · intro wq hSw
      try dsimp only at hSw
      have qs := str_of (S1.below hSw)
      go_simp
      try (with_reducible rfl)
    try simp only [Act.put, List.setIfInBounds_toArray, List.set_cons_zero, List.set_cons_succ]
    refine wpAnyH_ready (rs := [24]) (by kernel_rfl) (by simp) ?_
    refine AllReadyH.cons (by simp only [List.getElem?_toArray, List.getElem?_cons_succ, List.getElem?_cons_zero]; rfl) (fun K hK => ?_) AllReadyH.nil
    have hC := eBytes_any ala an ak ag Aa ma ca al u21 u6 Sa
    rw [hba.out] at hC
    go_simp
    refine hC.mono ?_
    clear hC
    rintro e u24 ⟨A2, n2, c2, rfl, O2, b24⟩
    go_wp2_with fail
    refine hK.out _ _ (b24) (fun hHeld => ?_)
    clear hK K
    try dsimp only at hHeld
    try simp only [Act.put, List.setIfInBounds_toArray, List.set_cons_zero, List.set_cons_succ]
    refine wpAnyH_ready (rs := [26]) (by kernel_rfl) (by simp) ?_
    refine AllReadyH.cons (by simp only [List.getElem?_toArray, List.getElem?_cons_succ, List.getElem?_cons_zero]; rfl) (fun K hK => ?_) AllReadyH.nil
    have hC := eBytes_any bla bn bk bg Ab mb cb bl u24 u7 (Sb.below b24)
    rw [hbb.out] at hC
    go_simp
    refine hC.mono ?_
    clear hC
    rintro e u26 ⟨A3, n3, c3, rfl, N3, b26⟩
    have s3 := N3.sl
    clear N3
    replace O2 := O2.below b26
    have bd6 := b24.trans (b26.mono b24.size)
    go_wp2_with fail
    refine hK.out _ _ (bd6) (fun hHeld => ?_)
    clear hK K
    try dsimp only at hHeld
    try simp only [Act.put, List.setIfInBounds_toArray, List.set_cons_zero, List.set_cons_succ]
    refine wpAnyH_ready (rs := [27]) (by kernel_rfl) (by simp) ?_
    refine AllReadyH.cons (by simp only [List.getElem?_toArray, List.getElem?_cons_succ, List.getElem?_cons_zero]; rfl) (fun K hK => ?_) AllReadyH.nil
    have HO := Own.start O2 bd6.size
    have hn2l := O2.1
    have hn3l := s3.len8
    rw [List.length_map, Nat.mul_one] at hn2l
    obtain ⟨A4, c4, u27, hr, hO⟩ := run_app (P := Try.prog) HO 23 23 i0 (.int .u8 0) 1 Try.underlying23 hi0 hz0 hz1 hz2 rfl _ _ _ _ s3 (oneCell8 _) (by have := hlen.out; omega) (by have := hlen.out; omega)
    refine (if_pos (by rfl)).mpr (wp_app (.tmp 127) (.tmp 129) 23 rfl rfl rfl hr ?_)
    have b7 := own_below O2 hO bd6
    have S7 := Sl.of_own hO.own
    rw [← List.map_append, u5.out] at S7
    clear HO hr hO O2 s3
    replace Vd := Vd.under b7
    replace bb := bb.trans (b7.mono bb.size)
    refine hK.out _ _ (b7) (fun _ => wpAnyH_stronger (S' := fun w' => Below u27.heap.size u27 w') (fun w' h => b7.trans (h.mono b7.size)) _ _ _ _ ?_)
    clear hK K hHeld
    have hHeld := Below.refl u27.heap.size u27
    clear b7 b24 bd6 b26
    try simp only [Act.put, List.setIfInBounds_toArray, List.set_cons_zero, List.set_cons_succ]
    refine wpAnyH_take (i := 28) (v := ?_) (by simp only [List.getElem?_toArray, List.getElem?_cons_succ, List.getElem?_cons_zero]; rfl) (by kernel_rfl) (by kernel_rfl) (by kernel_rfl) (by intro _ _ _ h; exact h) (Or.inl ⟨by rfl, ?_⟩) hHeld ?_
    rotate_left 1
    · intro wq hSw
      try dsimp only at hSw
      have qs := str_of (S7.below hSw)
      go_simp
      try (with_reducible rfl)
    try simp only [Act.put, List.setIfInBounds_toArray, List.set_cons_zero, List.set_cons_succ]
    refine wpAnyH_take (i := 29) (v := (.bool true)) (by simp only [List.getElem?_toArray, List.getElem?_cons_succ, List.getElem?_cons_zero]; rfl) (by kernel_rfl) (by kernel_rfl) (by kernel_rfl) (by intro _ _ _ h; exact h) (Or.inl ⟨by rfl, ?_⟩) hHeld ?_
    · intro wq hSw
      try dsimp only at hSw
      go_simp
      try simp
    try simp only [Act.put, List.setIfInBounds_toArray, List.set_cons_zero, List.set_cons_succ]
    refine wpAnyH_take (i := 30) (v := ?_) (by simp only [List.getElem?_toArray, List.getElem?_cons_succ, List.getElem?_cons_zero]; rfl) (by kernel_rfl) (by kernel_rfl) (by kernel_rfl) (by intro _ _ _ h; exact h) (Or.inl ⟨by rfl, ?_⟩) hHeld ?_
    rotate_left 1
    · intro wq hSw
      try dsimp only at hSw
      go_simp
      try (with_reducible rfl)
    try simp only [Act.put, List.setIfInBounds_toArray, List.set_cons_zero, List.set_cons_succ]
    refine wpAnyH_take (i := 31) (v := ?_) (by simp only [List.getElem?_toArray, List.getElem?_cons_succ, List.getElem?_cons_zero]; rfl) (by kernel_rfl) (by kernel_rfl) (by kernel_rfl) (by intro _ _ _ h; exact h) (Or.inl ⟨by rfl, ?_⟩) hHeld ?_
    rotate_left 1
    · intro wq hSw
      try dsimp only at hSw
      go_simp
      try (with_reducible rfl)
    try simp only [Act.put, List.setIfInBounds_toArray, List.set_cons_zero, List.set_cons_succ]
    refine wpAnyH_take (i := 32) (v := ?_) (by simp only [List.getElem?_toArray, List.getElem?_cons_succ, List.getElem?_cons_zero]; rfl) (by kernel_rfl) (by kernel_rfl) (by kernel_rfl) (by intro _ _ _ h; exact h) (Or.inl ⟨by rfl, ?_⟩) hHeld ?_
    rotate_left 1
    · intro wq hSw
      try dsimp only at hSw
      go_simp
      try (with_reducible rfl)
    try simp only [Act.put, List.setIfInBounds_toArray, List.set_cons_zero, List.set_cons_succ]
    refine wpAnyH_take (i := 33) (v := ?_) (by simp only [List.getElem?_toArray, List.getElem?_cons_succ, List.getElem?_cons_zero]; rfl) (by kernel_rfl) (by kernel_rfl) (by kernel_rfl) (by intro _ _ _ h; exact h) (Or.inl ⟨by rfl, ?_⟩) hHeld ?_
    rotate_left 1
    · intro wq hSw
      try dsimp only at hSw
      go_simp
      try (with_reducible rfl)
    try simp only [Act.put, List.setIfInBounds_toArray, List.set_cons_zero, List.set_cons_succ]
    refine wpAnyH_take (i := 34) (v := ?_) (by simp only [List.getElem?_toArray, List.getElem?_cons_succ, List.getElem?_cons_zero]; rfl) (by kernel_rfl) (by kernel_rfl) (by kernel_rfl) (by intro _ _ _ h; exact h) (Or.inl ⟨by rfl, ?_⟩) hHeld ?_
    rotate_left 1
    · intro wq hSw
      try dsimp only at hSw
      go_simp
      try (with_reducible rfl)
    try simp only [Act.put, List.setIfInBounds_toArray, List.set_cons_zero, List.set_cons_succ]
    refine wpAnyH_take (i := 35) (v := undef) (by simp only [List.getElem?_toArray, List.getElem?_cons_succ, List.getElem?_cons_zero]; rfl) (by kernel_rfl) (by kernel_rfl) (by kernel_rfl) (by intro _ _ _ h; exact h) (Or.inr ⟨by rfl, rfl⟩) hHeld ?_
    try simp only [Act.put, List.setIfInBounds_toArray, List.set_cons_zero, List.set_cons_succ]
    refine wpAnyH_take (i := 36) (v := undef) (by simp only [List.getElem?_toArray, List.getElem?_cons_succ, List.getElem?_cons_zero]; rfl) (by kernel_rfl) (by kernel_rfl) (by kernel_rfl) (by intro _ _ _ h; exact h) (Or.inr ⟨by rfl, rfl⟩) hHeld ?_
    try simp only [Act.put, List.setIfInBounds_toArray, List.set_cons_zero, List.set_cons_succ]
    refine wpAnyH_take (i := 37) (v := ?_) (by simp only [List.getElem?_toArray, List.getElem?_cons_succ, List.getElem?_cons_zero]; rfl) (by kernel_rfl) (by kernel_rfl) (by kernel_rfl) (by intro _ _ _ h; exact h) (Or.inl ⟨by rfl, ?_⟩) hHeld ?_
    rotate_left 1
    · intro wq hSw
      try dsimp only at hSw
      go_simp
      try (with_reducible rfl)
    try simp only [Act.put, List.setIfInBounds_toArray, List.set_cons_zero, List.set_cons_succ]
    refine wpAnyH_take (i := 38) (v := ?_) (by simp only [List.getElem?_toArray, List.getElem?_cons_succ, List.getElem?_cons_zero]; rfl) (by kernel_rfl) (by kernel_rfl) (by kernel_rfl) (by intro _ _ _ h; exact h) (Or.inl ⟨by rfl, ?_⟩) hHeld ?_
    rotate_left 1
    · intro wq hSw
      try dsimp only at hSw
      go_simp
      try (with_reducible rfl)
    try simp only [Act.put, List.setIfInBounds_toArray, List.set_cons_zero, List.set_cons_succ]
    refine wpAnyH_take (i := 39) (v := ?_) (by simp only [List.getElem?_toArray, List.getElem?_cons_succ, List.getElem?_cons_zero]; rfl) (by kernel_rfl) (by kernel_rfl) (by kernel_rfl) (by intro _ _ _ h; exact h) (Or.inl ⟨by rfl, ?_⟩) hHeld ?_
    rotate_left 1
    · intro wq hSw
      try dsimp only at hSw
      go_simp
      try (with_reducible rfl)
    try simp only [Act.put, List.setIfInBounds_toArray, List.set_cons_zero, List.set_cons_succ]
    refine wpAnyH_take (i := 40) (v := ?_) (by simp only [List.getElem?_toArray, List.getElem?_cons_succ, List.getElem?_cons_zero]; rfl) (by kernel_rfl) (by kernel_rfl) (by kernel_rfl) (by intro _ _ _ h; exact h) (Or.inl ⟨by rfl, ?_⟩) hHeld ?_
    rotate_left 1
    · intro wq hSw
      try dsimp only at hSw
      go_simp
      try (with_reducible rfl)
    try simp only [Act.put, List.setIfInBounds_toArray, List.set_cons_zero, List.set_cons_succ]
    refine wpAnyH_take (i := 41) (v := ?_) (by simp only [List.getElem?_toArray, List.getElem?_cons_succ, List.getElem?_cons_zero]; rfl) (by kernel_rfl) (by kernel_rfl) (by kernel_rfl) (by intro _ _ _ h; exact h) (Or.inl ⟨by rfl, ?_⟩) hHeld ?_
    rotate_left 1
    · intro wq hSw
      try dsimp only at hSw
      go_simp
      try (with_reducible rfl)
    try simp only [Act.put, List.setIfInBounds_toArray, List.set_cons_zero, List.set_cons_succ]
    refine wpAnyH_take (i := 42) (v := (.bool true)) (by simp only [List.getElem?_toArray, List.getElem?_cons_succ, List.getElem?_cons_zero]; rfl) (by kernel_rfl) (by kernel_rfl) (by kernel_rfl) (by intro _ _ _ h; exact h) (Or.inl ⟨by rfl, ?_⟩) hHeld ?_
    · intro wq hSw
      try dsimp only at hSw
      go_simp
      try (cases bf <;> rfl)
    try simp only [Act.put, List.setIfInBounds_toArray, List.set_cons_zero, List.set_cons_succ]
    refine wpAnyH_take (i := 43) (v := ?_) (by simp only [List.getElem?_toArray, List.getElem?_cons_succ, List.getElem?_cons_zero]; rfl) (by kernel_rfl) (by kernel_rfl) (by kernel_rfl) (by intro _ _ _ h; exact h) (Or.inl ⟨by rfl, ?_⟩) hHeld ?_
    rotate_left 1
    · intro wq hSw
      try dsimp only at hSw
      go_simp
      try (with_reducible rfl)
    try simp only [Act.put, List.setIfInBounds_toArray, List.set_cons_zero, List.set_cons_succ]
    refine wpAnyH_take (i := 44) (v := ?_) (by simp only [List.getElem?_toArray, List.getElem?_cons_succ, List.getElem?_cons_zero]; rfl) (by kernel_rfl) (by kernel_rfl) (by kernel_rfl) (by intro _ _ _ h; exact h) (Or.inl ⟨by rfl, ?_⟩) hHeld ?_
    rotate_left 1
    · intro wq hSw
      try dsimp only at hSw
      go_simp
      try (with_reducible rfl)
    try simp only [Act.put, List.setIfInBounds_toArray, List.set_cons_zero, List.set_cons_succ]
    refine wpAnyH_take (i := 45) (v := ?_) (by simp only [List.getElem?_toArray, List.getElem?_cons_succ, List.getElem?_cons_zero]; rfl) (by kernel_rfl) (by kernel_rfl) (by kernel_rfl) (by intro _ _ _ h; exact h) (Or.inl ⟨by rfl, ?_⟩) hHeld ?_
    rotate_left 1
    · intro wq hSw
      try dsimp only at hSw
      go_simp
      try (with_reducible rfl)
    try simp only [Act.put, List.setIfInBounds_toArray, List.set_cons_zero, List.set_cons_succ]
    refine wpAnyH_take (i := 46) (v := ?_) (by simp only [List.getElem?_toArray, List.getElem?_cons_succ, List.getElem?_cons_zero]; rfl) (by kernel_rfl) (by kernel_rfl) (by kernel_rfl) (by intro _ _ _ h; exact h) (Or.inl ⟨by rfl, ?_⟩) hHeld ?_
    rotate_left 1
    · intro wq hSw
      try dsimp only at hSw
      go_simp
      try (with_reducible rfl)
    try simp only [Act.put, List.setIfInBounds_toArray, List.set_cons_zero, List.set_cons_succ]
    refine wpAnyH_take (i := 47) (v := ?_) (by simp only [List.getElem?_toArray, List.getElem?_cons_succ, List.getElem?_cons_zero]; rfl) (by kernel_rfl) (by kernel_rfl) (by kernel_rfl) (by intro _ _ _ h; exact h) (Or.inl ⟨by rfl, ?_⟩) hHeld ?_
    rotate_left 1
    · intro wq hSw
      try dsimp only at hSw
      go_simp
      try (with_reducible rfl)
    try simp only [Act.put, List.setIfInBounds_toArray, List.set_cons_zero, List.set_cons_succ]
    refine wpAnyH_done (by kernel_rfl) ?_ _
    go_wp2
    go_ret
    exact ⟨rfl, bb.trans (hHeld.mono bb.size)⟩
  · skip
    refine wp_region_held_drew (S := fun w' => Below w10.heap.size w10 w') (by kernel_rfl) (Below.refl _ _).drew (fun hHeld => ?_)
    try dsimp only at hHeld
    have bW : Below w10.heap.size w10 w10.drew := (Below.refl w10.heap.size w10).drew
    have Vxd := Vx.drew
    have Vad := Va.drew
    have Vbd := Vb.drew
    have Vdd := Vd.drew
    have S0d := S0.drew
    have Sad := Sa.drew
    have Sbd := Sb.drew
    have Sdd := Sd.drew
    have bbd := bb.drew
    generalize w10.drew = wd at *
    try simp only [Act.put, List.setIfInBounds_toArray, List.set_cons_zero, List.set_cons_succ]
    refine wpAnyH_take (i := 0) (v := ?_) (by simp only [List.getElem?_toArray, List.getElem?_cons_zero]; rfl) (by kernel_rfl) (by kernel_rfl) (by kernel_rfl) (by intro _ _ _ h; exact h) (Or.inl ⟨by rfl, ?_⟩) hHeld ?_
    rotate_left 1
    · intro wq hSw
      try dsimp only at hSw
      go_simp
      try (with_reducible rfl)
    try simp only [Act.put, List.setIfInBounds_toArray, List.set_cons_zero, List.set_cons_succ]
    refine wpAnyH_take (i := 1) (v := ?_) (by simp only [List.getElem?_toArray, List.getElem?_cons_succ, List.getElem?_cons_zero]; rfl) (by kernel_rfl) (by kernel_rfl) (by kernel_rfl) (by intro _ _ _ h; exact h) (Or.inl ⟨by rfl, ?_⟩) hHeld ?_
    rotate_left 1
    · intro wq hSw
      try dsimp only at hSw
      go_simp
      try (with_reducible rfl)
    try simp only [Act.put, List.setIfInBounds_toArray, List.set_cons_zero, List.set_cons_succ]
    refine wpAnyH_take (i := 2) (v := ?_) (by simp only [List.getElem?_toArray, List.getElem?_cons_succ, List.getElem?_cons_zero]; rfl) (by kernel_rfl) (by kernel_rfl) (by kernel_rfl) (by intro _ _ _ h; exact h) (Or.inl ⟨by rfl, ?_⟩) hHeld ?_
    rotate_left 1
    · intro wq hSw
      try dsimp only at hSw
      go_simp
      try (with_reducible rfl)
    try simp only [Act.put, List.setIfInBounds_toArray, List.set_cons_zero, List.set_cons_succ]
    refine wpAnyH_take (i := 3) (v := ?_) (by simp only [List.getElem?_toArray, List.getElem?_cons_succ, List.getElem?_cons_zero]; rfl) (by kernel_rfl) (by kernel_rfl) (by kernel_rfl) (by intro _ _ _ h; exact h) (Or.inl ⟨by rfl, ?_⟩) hHeld ?_
    rotate_left 1
    · intro wq hSw
      try dsimp only at hSw
      go_simp
      try (with_reducible rfl)
    try simp only [Act.put, List.setIfInBounds_toArray, List.set_cons_zero, List.set_cons_succ]
    refine wpAnyH_take (i := 4) (v := ?_) (by simp only [List.getElem?_toArray, List.getElem?_cons_succ, List.getElem?_cons_zero]; rfl) (by kernel_rfl) (by kernel_rfl) (by kernel_rfl) (by intro _ _ _ h; exact h) (Or.inl ⟨by rfl, ?_⟩) hHeld ?_
    rotate_left 1
    · intro wq hSw
      try dsimp only at hSw
      go_simp
      try (with_reducible rfl)
    try simp only [Act.put, List.setIfInBounds_toArray, List.set_cons_zero, List.set_cons_succ]
    refine wpAnyH_take (i := 5) (v := ?_) (by simp only [List.getElem?_toArray, List.getElem?_cons_succ, List.getElem?_cons_zero]; rfl) (by kernel_rfl) (by kernel_rfl) (by kernel_rfl) (by intro _ _ _ h; exact h) (Or.inl ⟨by rfl, ?_⟩) hHeld ?_
    rotate_left 1
    · intro wq hSw
      try dsimp only at hSw
      go_simp
      try (with_reducible rfl)
    try simp only [Act.put, List.setIfInBounds_toArray, List.set_cons_zero, List.set_cons_succ]
    refine wpAnyH_take (i := 6) (v := ?_) (by simp only [List.getElem?_toArray, List.getElem?_cons_succ, List.getElem?_cons_zero]; rfl) (by kernel_rfl) (by kernel_rfl) (by kernel_rfl) (by intro _ _ _ h; exact h) (Or.inl ⟨by rfl, ?_⟩) hHeld ?_
    rotate_left 1
    · intro wq hSw
      try dsimp only at hSw
      go_simp
      try (with_reducible rfl)
    try simp only [Act.put, List.setIfInBounds_toArray, List.set_cons_zero, List.set_cons_succ]
    refine wpAnyH_take (i := 7) (v := ?_) (by simp only [List.getElem?_toArray, List.getElem?_cons_succ, List.getElem?_cons_zero]; rfl) (by kernel_rfl) (by kernel_rfl) (by kernel_rfl) (by intro _ _ _ h; exact h) (Or.inl ⟨by rfl, ?_⟩) hHeld ?_
    rotate_left 1
    · intro wq hSw
      try dsimp only at hSw
      go_simp
      try (with_reducible rfl)
    try simp only [Act.put, List.setIfInBounds_toArray, List.set_cons_zero, List.set_cons_succ]
    refine wpAnyH_take (i := 8) (v := ?_) (by simp only [List.getElem?_toArray, List.getElem?_cons_succ, List.getElem?_cons_zero]; rfl) (by kernel_rfl) (by kernel_rfl) (by kernel_rfl) (by intro _ _ _ h; exact h) (Or.inl ⟨by rfl, ?_⟩) hHeld ?_
    rotate_left 1
    · intro wq hSw
      try dsimp only at hSw
      go_simp
      try (with_reducible rfl)
    try simp only [Act.put, List.setIfInBounds_toArray, List.set_cons_zero, List.set_cons_succ]
    refine wpAnyH_take (i := 9) (v := ?_) (by simp only [List.getElem?_toArray, List.getElem?_cons_succ, List.getElem?_cons_zero]; rfl) (by kernel_rfl) (by kernel_rfl) (by kernel_rfl) (by intro _ _ _ h; exact h) (Or.inl ⟨by rfl, ?_⟩) hHeld ?_
    rotate_left 1
    · intro wq hSw
      try dsimp only at hSw
      go_simp
      try (with_reducible rfl)
    try simp only [Act.put, List.setIfInBounds_toArray, List.set_cons_zero, List.set_cons_succ]
    refine wpAnyH_take (i := 10) (v := ?_) (by simp only [List.getElem?_toArray, List.getElem?_cons_succ, List.getElem?_cons_zero]; rfl) (by kernel_rfl) (by kernel_rfl) (by kernel_rfl) (by intro _ _ _ h; exact h) (Or.inl ⟨by rfl, ?_⟩) hHeld ?_
    rotate_left 1
    · intro wq hSw
      try dsimp only at hSw
      go_simp
      try (with_reducible rfl)
    try simp only [Act.put, List.setIfInBounds_toArray, List.set_cons_zero, List.set_cons_succ]
    refine wpAnyH_take (i := 11) (v := ?_) (by simp only [List.getElem?_toArray, List.getElem?_cons_succ, List.getElem?_cons_zero]; rfl) (by kernel_rfl) (by kernel_rfl) (by kernel_rfl) (by intro _ _ _ h; exact h) (Or.inl ⟨by rfl, ?_⟩) hHeld ?_
    rotate_left 1
    · intro wq hSw
      try dsimp only at hSw
      go_simp
      try (with_reducible rfl)
    try simp only [Act.put, List.setIfInBounds_toArray, List.set_cons_zero, List.set_cons_succ]
    refine wpAnyH_take (i := 12) (v := ?_) (by simp only [List.getElem?_toArray, List.getElem?_cons_succ, List.getElem?_cons_zero]; rfl) (by kernel_rfl) (by kernel_rfl) (by kernel_rfl) (by intro _ _ _ h; exact h) (Or.inl ⟨by rfl, ?_⟩) hHeld ?_
    rotate_left 1
    · intro wq hSw
      try dsimp only at hSw
      go_simp
      try (with_reducible rfl)
    try simp only [Act.put, List.setIfInBounds_toArray, List.set_cons_zero, List.set_cons_succ]
    refine wpAnyH_take (i := 13) (v := ?_) (by simp only [List.getElem?_toArray, List.getElem?_cons_succ, List.getElem?_cons_zero]; rfl) (by kernel_rfl) (by kernel_rfl) (by kernel_rfl) (by intro _ _ _ h; exact h) (Or.inl ⟨by rfl, ?_⟩) hHeld ?_
    rotate_left 1
    · intro wq hSw
      try dsimp only at hSw
      go_simp
      try (with_reducible rfl)
    try simp only [Act.put, List.setIfInBounds_toArray, List.set_cons_zero, List.set_cons_succ]
    refine wpAnyH_take (i := 14) (v := ?_) (by simp only [List.getElem?_toArray, List.getElem?_cons_succ, List.getElem?_cons_zero]; rfl) (by kernel_rfl) (by kernel_rfl) (by kernel_rfl) (by intro _ _ _ h; exact h) (Or.inl ⟨by rfl, ?_⟩) hHeld ?_
    rotate_left 1
    · intro wq hSw
      try dsimp only at hSw
      go_simp
      try (with_reducible rfl)
    try simp only [Act.put, List.setIfInBounds_toArray, List.set_cons_zero, List.set_cons_succ]
    refine wpAnyH_take (i := 15) (v := ?_) (by simp only [List.getElem?_toArray, List.getElem?_cons_succ, List.getElem?_cons_zero]; rfl) (by kernel_rfl) (by kernel_rfl) (by kernel_rfl) (by intro _ _ _ h; exact h) (Or.inl ⟨by rfl, ?_⟩) hHeld ?_
    rotate_left 1
    · intro wq hSw
      try dsimp only at hSw
      obtain ⟨y0, y1, y2, y3, y4, _⟩ := (Va.under hSw).five
      go_simp
      try (with_reducible rfl)
    try simp only [Act.put, List.setIfInBounds_toArray, List.set_cons_zero, List.set_cons_succ]
    refine wpAnyH_take (i := 16) (v := ?_) (by simp only [List.getElem?_toArray, List.getElem?_cons_succ, List.getElem?_cons_zero]; rfl) (by kernel_rfl) (by kernel_rfl) (by kernel_rfl) (by intro _ _ _ h; exact h) (Or.inl ⟨by rfl, ?_⟩) hHeld ?_
    rotate_left 1
    · intro wq hSw
      try dsimp only at hSw
      obtain ⟨y0, y1, y2, y3, y4, _⟩ := (Vb.under hSw).five
      go_simp
      try (with_reducible rfl)
    try simp only [Act.put, List.setIfInBounds_toArray, List.set_cons_zero, List.set_cons_succ]
    refine wpAnyH_ready (rs := [17]) (by kernel_rfl) (by simp) ?_
    refine AllReadyH.cons (by simp only [List.getElem?_toArray, List.getElem?_cons_succ, List.getElem?_cons_zero]; rfl) (fun K hK => ?_) AllReadyH.nil
    go_simp
    refine (eJoins_any ala an ak ag Aa ma ca bla bn bk bg Ab mb cb wd u6 u7).mono ?_
    rintro e u17 ⟨rfl, bN⟩
    rw [hJ]
    have B17 := bN
    replace Vx := Vxd.under bN
    replace Va := Vad.under bN
    replace Vb := Vbd.under bN
    replace Vd := Vdd.under bN
    replace S0 := S0d.below bN
    replace Sa := Sad.below bN
    replace Sb := Sbd.below bN
    replace Sd := Sdd.below bN
    replace bb := bbd.trans (bN.mono bbd.size)
    clear bN Vxd Vad Vbd Vdd S0d Sad Sbd Sdd bbd
    go_wp2_with fail
    refine hK.out _ _ (bW.trans (B17.mono bW.size)) (fun _ => wpAnyH_stronger (S' := fun w' => Below u17.heap.size u17 w') (fun w' h => (bW.trans (B17.mono bW.size)).trans (h.mono (bW.trans (B17.mono bW.size)).size)) _ _ _ _ ?_)
    clear hK K hHeld
    have hHeld := Below.refl u17.heap.size u17
    clear B17 bW
    try simp only [Act.put, List.setIfInBounds_toArray, List.set_cons_zero, List.set_cons_succ]
    refine wpAnyH_take (i := 18) (v := ?_) (by simp only [List.getElem?_toArray, List.getElem?_cons_succ, List.getElem?_cons_zero]; rfl) (by kernel_rfl) (by kernel_rfl) (by kernel_rfl) (by intro _ _ _ h; exact h) (Or.inl ⟨by rfl, ?_⟩) hHeld ?_
    rotate_left 1
    · intro wq hSw
      try dsimp only at hSw
      go_simp
      try (with_reducible rfl)
    try simp only [Act.put, List.setIfInBounds_toArray, List.set_cons_zero, List.set_cons_succ]
    refine wpAnyH_take (i := 19) (v := ?_) (by simp only [List.getElem?_toArray, List.getElem?_cons_succ, List.getElem?_cons_zero]; rfl) (by kernel_rfl) (by kernel_rfl) (by kernel_rfl) (by intro _ _ _ h; exact h) (Or.inl ⟨by rfl, ?_⟩) hHeld ?_
    rotate_left 1
    · intro wq hSw
      try dsimp only at hSw
      go_simp
      try (with_reducible rfl)
    try simp only [Act.put, List.setIfInBounds_toArray, List.set_cons_zero, List.set_cons_succ]
    refine wpAnyH_take (i := 20) (v := ?_) (by simp only [List.getElem?_toArray, List.getElem?_cons_succ, List.getElem?_cons_zero]; rfl) (by kernel_rfl) (by kernel_rfl) (by kernel_rfl) (by intro _ _ _ h; exact h) (Or.inl ⟨by rfl, ?_⟩) hHeld ?_
    rotate_left 1
    · intro wq hSw
      try dsimp only at hSw
      obtain ⟨y0, y1, y2, y3, y4, _⟩ := (Vx.under hSw).five
      go_simp
      try (with_reducible rfl)
    try simp only [Act.put, List.setIfInBounds_toArray, List.set_cons_zero, List.set_cons_succ]
    refine wpAnyH_take (i := 23) (v := ?_) (by simp only [List.getElem?_toArray, List.getElem?_cons_succ, List.getElem?_cons_zero]; rfl) (by kernel_rfl) (by kernel_rfl) (by kernel_rfl) (by intro _ _ _ h; exact h) (Or.inl ⟨by rfl, ?_⟩) hHeld ?_
    rotate_left 1
    · intro wq hSw
      try dsimp only at hSw
      obtain ⟨y0, y1, y2, y3, y4, _⟩ := (Va.under hSw).five
      go_simp
      try (with_reducible rfl)
    try simp only [Act.put, List.setIfInBounds_toArray, List.set_cons_zero, List.set_cons_succ]
    refine wpAnyH_take (i := 25) (v := ?_) (by simp only [List.getElem?_toArray, List.getElem?_cons_succ, List.getElem?_cons_zero]; rfl) (by kernel_rfl) (by kernel_rfl) (by kernel_rfl) (by intro _ _ _ h; exact h) (Or.inl ⟨by rfl, ?_⟩) hHeld ?_
    rotate_left 1
    · intro wq hSw
      try dsimp only at hSw
      obtain ⟨y0, y1, y2, y3, y4, _⟩ := (Vb.under hSw).five
      go_simp
      try (with_reducible rfl)
    try simp only [Act.put, List.setIfInBounds_toArray, List.set_cons_zero, List.set_cons_succ]
    refine wpAnyH_ready (rs := [21]) (by kernel_rfl) (by simp) ?_
    refine AllReadyH.cons (by simp only [List.getElem?_toArray, List.getElem?_cons_succ, List.getElem?_cons_zero]; rfl) (fun K hK => ?_) AllReadyH.nil
    have hC := eBytes_any la n k g A m c l u17 hla S0
    rw [hbx.out] at hC
    go_simp
    refine hC.mono ?_
    clear hC
    rintro e u21 ⟨A1, n1, c1, rfl, N1, bN⟩
    have S1 := N1.sl
    clear N1
    have B21 := bN
    replace Vx := Vx.under bN
    replace Va := Va.under bN
    replace Vb := Vb.under bN
    replace Vd := Vd.under bN
    replace S0 := S0.below bN
    replace Sa := Sa.below bN
    replace Sb := Sb.below bN
    replace Sd := Sd.below bN
    replace bb := bb.trans (bN.mono bb.size)
    clear bN
    go_wp2_with fail
    refine hK.out _ _ (B21) (fun _ => wpAnyH_stronger (S' := fun w' => Below u21.heap.size u21 w') (fun w' h => B21.trans (h.mono B21.size)) _ _ _ _ ?_)
    clear hK K hHeld
    have hHeld := Below.refl u21.heap.size u21
    clear B21
    try simp only [Act.put, List.setIfInBounds_toArray, List.set_cons_zero, List.set_cons_succ]
    refine wpAnyH_take (i := 22) (v := ?_) (by simp only [List.getElem?_toArray, List.getElem?_cons_succ, List.getElem?_cons_zero]; rfl) (by kernel_rfl) (by kernel_rfl) (by kernel_rfl) (by intro _ _ _ h; exact h) (Or.inl ⟨by rfl, ?_⟩) hHeld ?_
    rotate_left 1
    · intro wq hSw
      try dsimp only at hSw
      have qs := str_of (S1.below hSw)
      go_simp
      try (with_reducible rfl)
    try simp only [Act.put, List.setIfInBounds_toArray, List.set_cons_zero, List.set_cons_succ]
    refine wpAnyH_ready (rs := [24]) (by kernel_rfl) (by simp) ?_
    refine AllReadyH.cons (by simp only [List.getElem?_toArray, List.getElem?_cons_succ, List.getElem?_cons_zero]; rfl) (fun K hK => ?_) AllReadyH.nil
    have hC := eBytes_any ala an ak ag Aa ma ca al u21 u6 Sa
    rw [hba.out] at hC
    go_simp
    refine hC.mono ?_
    clear hC
    rintro e u24 ⟨A2, n2, c2, rfl, O2, b24⟩
    go_wp2_with fail
    refine hK.out _ _ (b24) (fun hHeld => ?_)
    clear hK K
    try dsimp only at hHeld
    try simp only [Act.put, List.setIfInBounds_toArray, List.set_cons_zero, List.set_cons_succ]
    refine wpAnyH_ready (rs := [26]) (by kernel_rfl) (by simp) ?_
    refine AllReadyH.cons (by simp only [List.getElem?_toArray, List.getElem?_cons_succ, List.getElem?_cons_zero]; rfl) (fun K hK => ?_) AllReadyH.nil
    have hC := eBytes_any bla bn bk bg Ab mb cb bl u24 u7 (Sb.below b24)
    rw [hbb.out] at hC
    go_simp
    refine hC.mono ?_
    clear hC
    rintro e u26 ⟨A3, n3, c3, rfl, N3, b26⟩
    have s3 := N3.sl
    clear N3
    replace O2 := O2.below b26
    have bd6 := b24.trans (b26.mono b24.size)
    go_wp2_with fail
    refine hK.out _ _ (bd6) (fun hHeld => ?_)
    clear hK K
    try dsimp only at hHeld
    try simp only [Act.put, List.setIfInBounds_toArray, List.set_cons_zero, List.set_cons_succ]
    refine wpAnyH_ready (rs := [27]) (by kernel_rfl) (by simp) ?_
    refine AllReadyH.cons (by simp only [List.getElem?_toArray, List.getElem?_cons_succ, List.getElem?_cons_zero]; rfl) (fun K hK => ?_) AllReadyH.nil
    have HO := Own.start O2 bd6.size
    have hn2l := O2.1
    have hn3l := s3.len8
    rw [List.length_map, Nat.mul_one] at hn2l
    obtain ⟨A4, c4, u27, hr, hO⟩ := run_app (P := Try.prog) HO 23 23 i0 (.int .u8 0) 1 Try.underlying23 hi0 hz0 hz1 hz2 rfl _ _ _ _ s3 (oneCell8 _) (by have := hlen.out; omega) (by have := hlen.out; omega)
    refine (if_pos (by rfl)).mpr (wp_app (.tmp 127) (.tmp 129) 23 rfl rfl rfl hr ?_)
    have b7 := own_below O2 hO bd6
    have S7 := Sl.of_own hO.own
    rw [← List.map_append, u5.out] at S7
    clear HO hr hO O2 s3
    replace Vd := Vd.under b7
    replace bb := bb.trans (b7.mono bb.size)
    refine hK.out _ _ (b7) (fun _ => wpAnyH_stronger (S' := fun w' => Below u27.heap.size u27 w') (fun w' h => b7.trans (h.mono b7.size)) _ _ _ _ ?_)
    clear hK K hHeld
    have hHeld := Below.refl u27.heap.size u27
    clear b7 b24 bd6 b26
    try simp only [Act.put, List.setIfInBounds_toArray, List.set_cons_zero, List.set_cons_succ]
    refine wpAnyH_take (i := 28) (v := ?_) (by simp only [List.getElem?_toArray, List.getElem?_cons_succ, List.getElem?_cons_zero]; rfl) (by kernel_rfl) (by kernel_rfl) (by kernel_rfl) (by intro _ _ _ h; exact h) (Or.inl ⟨by rfl, ?_⟩) hHeld ?_
    rotate_left 1
    · intro wq hSw
      try dsimp only at hSw
      have qs := str_of (S7.below hSw)
      go_simp
      try (with_reducible rfl)
    try simp only [Act.put, List.setIfInBounds_toArray, List.set_cons_zero, List.set_cons_succ]
    refine wpAnyH_take (i := 29) (v := (.bool true)) (by simp only [List.getElem?_toArray, List.getElem?_cons_succ, List.getElem?_cons_zero]; rfl) (by kernel_rfl) (by kernel_rfl) (by kernel_rfl) (by intro _ _ _ h; exact h) (Or.inl ⟨by rfl, ?_⟩) hHeld ?_
    · intro wq hSw
      try dsimp only at hSw
      go_simp
      try simp
    try simp only [Act.put, List.setIfInBounds_toArray, List.set_cons_zero, List.set_cons_succ]
    refine wpAnyH_take (i := 30) (v := ?_) (by simp only [List.getElem?_toArray, List.getElem?_cons_succ, List.getElem?_cons_zero]; rfl) (by kernel_rfl) (by kernel_rfl) (by kernel_rfl) (by intro _ _ _ h; exact h) (Or.inl ⟨by rfl, ?_⟩) hHeld ?_
    rotate_left 1
    · intro wq hSw
      try dsimp only at hSw
      go_simp
      try (with_reducible rfl)
    try simp only [Act.put, List.setIfInBounds_toArray, List.set_cons_zero, List.set_cons_succ]
    refine wpAnyH_take (i := 31) (v := ?_) (by simp only [List.getElem?_toArray, List.getElem?_cons_succ, List.getElem?_cons_zero]; rfl) (by kernel_rfl) (by kernel_rfl) (by kernel_rfl) (by intro _ _ _ h; exact h) (Or.inl ⟨by rfl, ?_⟩) hHeld ?_
    rotate_left 1
    · intro wq hSw
      try dsimp only at hSw
      go_simp
      try (with_reducible rfl)
    try simp only [Act.put, List.setIfInBounds_toArray, List.set_cons_zero, List.set_cons_succ]
    refine wpAnyH_take (i := 32) (v := ?_) (by simp only [List.getElem?_toArray, List.getElem?_cons_succ, List.getElem?_cons_zero]; rfl) (by kernel_rfl) (by kernel_rfl) (by kernel_rfl) (by intro _ _ _ h; exact h) (Or.inl ⟨by rfl, ?_⟩) hHeld ?_
    rotate_left 1
    · intro wq hSw
      try dsimp only at hSw
      go_simp
      try (with_reducible rfl)
    try simp only [Act.put, List.setIfInBounds_toArray, List.set_cons_zero, List.set_cons_succ]
    refine wpAnyH_take (i := 33) (v := ?_) (by simp only [List.getElem?_toArray, List.getElem?_cons_succ, List.getElem?_cons_zero]; rfl) (by kernel_rfl) (by kernel_rfl) (by kernel_rfl) (by intro _ _ _ h; exact h) (Or.inl ⟨by rfl, ?_⟩) hHeld ?_
    rotate_left 1
    · intro wq hSw
      try dsimp only at hSw
      go_simp
      try (with_reducible rfl)
    try simp only [Act.put, List.setIfInBounds_toArray, List.set_cons_zero, List.set_cons_succ]
    refine wpAnyH_take (i := 34) (v := ?_) (by simp only [List.getElem?_toArray, List.getElem?_cons_succ, List.getElem?_cons_zero]; rfl) (by kernel_rfl) (by kernel_rfl) (by kernel_rfl) (by intro _ _ _ h; exact h) (Or.inl ⟨by rfl, ?_⟩) hHeld ?_
    rotate_left 1
    · intro wq hSw
      try dsimp only at hSw
      go_simp
      try (with_reducible rfl)
    try simp only [Act.put, List.setIfInBounds_toArray, List.set_cons_zero, List.set_cons_succ]
    refine wpAnyH_take (i := 35) (v := ?_) (by simp only [List.getElem?_toArray, List.getElem?_cons_succ, List.getElem?_cons_zero]; rfl) (by kernel_rfl) (by kernel_rfl) (by kernel_rfl) (by intro _ _ _ h; exact h) (Or.inl ⟨by rfl, ?_⟩) hHeld ?_
    rotate_left 1
    · intro wq hSw
      try dsimp only at hSw
      obtain ⟨y0, y1, y2, y3, y4, _⟩ := (Vd.under hSw).five
      go_simp
      try (with_reducible rfl)
    try simp only [Act.put, List.setIfInBounds_toArray, List.set_cons_zero, List.set_cons_succ]
    refine wpAnyH_ready (rs := [36]) (by kernel_rfl) (by simp) ?_
    refine AllReadyH.cons (by simp only [List.getElem?_toArray, List.getElem?_cons_succ, List.getElem?_cons_zero]; rfl) (fun K hK => ?_) AllReadyH.nil
    have hC := eCheck_any dla dn dk dg Ad md cd u27 hdl
    rw [hckd.out (by first | trivial | rfl) md hmd.out.symm] at hC
    go_simp
    refine hC.mono ?_
    clear hC
    rintro e u36 ⟨rfl, b36⟩
    go_wp2_with fail
    refine hK.out _ _ (b36) (fun hHeld => ?_)
    clear hK K
    try dsimp only at hHeld
    try simp only [Act.put, List.setIfInBounds_toArray, List.set_cons_zero, List.set_cons_succ]
    refine wpAnyH_take (i := 37) (v := ?_) (by simp only [List.getElem?_toArray, List.getElem?_cons_succ, List.getElem?_cons_zero]; rfl) (by kernel_rfl) (by kernel_rfl) (by kernel_rfl) (by intro _ _ _ h; exact h) (Or.inl ⟨by rfl, ?_⟩) hHeld ?_
    rotate_left 1
    · intro wq hSw
      try dsimp only at hSw
      go_simp
      try (with_reducible rfl)
    try simp only [Act.put, List.setIfInBounds_toArray, List.set_cons_zero, List.set_cons_succ]
    refine wpAnyH_take (i := 38) (v := ?_) (by simp only [List.getElem?_toArray, List.getElem?_cons_succ, List.getElem?_cons_zero]; rfl) (by kernel_rfl) (by kernel_rfl) (by kernel_rfl) (by intro _ _ _ h; exact h) (Or.inl ⟨by rfl, ?_⟩) hHeld ?_
    rotate_left 1
    · intro wq hSw
      try dsimp only at hSw
      go_simp
      try (with_reducible rfl)
    try simp only [Act.put, List.setIfInBounds_toArray, List.set_cons_zero, List.set_cons_succ]
    refine wpAnyH_take (i := 39) (v := ?_) (by simp only [List.getElem?_toArray, List.getElem?_cons_succ, List.getElem?_cons_zero]; rfl) (by kernel_rfl) (by kernel_rfl) (by kernel_rfl) (by intro _ _ _ h; exact h) (Or.inl ⟨by rfl, ?_⟩) hHeld ?_
    rotate_left 1
    · intro wq hSw
      try dsimp only at hSw
      go_simp
      try (with_reducible rfl)
    try simp only [Act.put, List.setIfInBounds_toArray, List.set_cons_zero, List.set_cons_succ]
    refine wpAnyH_take (i := 40) (v := ?_) (by simp only [List.getElem?_toArray, List.getElem?_cons_succ, List.getElem?_cons_zero]; rfl) (by kernel_rfl) (by kernel_rfl) (by kernel_rfl) (by intro _ _ _ h; exact h) (Or.inl ⟨by rfl, ?_⟩) hHeld ?_
    rotate_left 1
    · intro wq hSw
      try dsimp only at hSw
      go_simp
      try (with_reducible rfl)
    try simp only [Act.put, List.setIfInBounds_toArray, List.set_cons_zero, List.set_cons_succ]
    refine wpAnyH_take (i := 41) (v := ?_) (by simp only [List.getElem?_toArray, List.getElem?_cons_succ, List.getElem?_cons_zero]; rfl) (by kernel_rfl) (by kernel_rfl) (by kernel_rfl) (by intro _ _ _ h; exact h) (Or.inl ⟨by rfl, ?_⟩) hHeld ?_
    rotate_left 1
    · intro wq hSw
      try dsimp only at hSw
      go_simp
      try (with_reducible rfl)
    try simp only [Act.put, List.setIfInBounds_toArray, List.set_cons_zero, List.set_cons_succ]
    refine wpAnyH_take (i := 42) (v := (.bool true)) (by simp only [List.getElem?_toArray, List.getElem?_cons_succ, List.getElem?_cons_zero]; rfl) (by kernel_rfl) (by kernel_rfl) (by kernel_rfl) (by intro _ _ _ h; exact h) (Or.inl ⟨by rfl, ?_⟩) hHeld ?_
    · intro wq hSw
      try dsimp only at hSw
      go_simp
      try (cases bf <;> rfl)
    try simp only [Act.put, List.setIfInBounds_toArray, List.set_cons_zero, List.set_cons_succ]
    refine wpAnyH_take (i := 43) (v := ?_) (by simp only [List.getElem?_toArray, List.getElem?_cons_succ, List.getElem?_cons_zero]; rfl) (by kernel_rfl) (by kernel_rfl) (by kernel_rfl) (by intro _ _ _ h; exact h) (Or.inl ⟨by rfl, ?_⟩) hHeld ?_
    rotate_left 1
    · intro wq hSw
      try dsimp only at hSw
      go_simp
      try (with_reducible rfl)
    try simp only [Act.put, List.setIfInBounds_toArray, List.set_cons_zero, List.set_cons_succ]
    refine wpAnyH_take (i := 44) (v := ?_) (by simp only [List.getElem?_toArray, List.getElem?_cons_succ, List.getElem?_cons_zero]; rfl) (by kernel_rfl) (by kernel_rfl) (by kernel_rfl) (by intro _ _ _ h; exact h) (Or.inl ⟨by rfl, ?_⟩) hHeld ?_
    rotate_left 1
    · intro wq hSw
      try dsimp only at hSw
      go_simp
      try (with_reducible rfl)
    try simp only [Act.put, List.setIfInBounds_toArray, List.set_cons_zero, List.set_cons_succ]
    refine wpAnyH_take (i := 45) (v := ?_) (by simp only [List.getElem?_toArray, List.getElem?_cons_succ, List.getElem?_cons_zero]; rfl) (by kernel_rfl) (by kernel_rfl) (by kernel_rfl) (by intro _ _ _ h; exact h) (Or.inl ⟨by rfl, ?_⟩) hHeld ?_
    rotate_left 1
    · intro wq hSw
      try dsimp only at hSw
      go_simp
      try (with_reducible rfl)
    try simp only [Act.put, List.setIfInBounds_toArray, List.set_cons_zero, List.set_cons_succ]
    refine wpAnyH_take (i := 46) (v := ?_) (by simp only [List.getElem?_toArray, List.getElem?_cons_succ, List.getElem?_cons_zero]; rfl) (by kernel_rfl) (by kernel_rfl) (by kernel_rfl) (by intro _ _ _ h; exact h) (Or.inl ⟨by rfl, ?_⟩) hHeld ?_
    rotate_left 1
    · intro wq hSw
      try dsimp only at hSw
      go_simp
      try (with_reducible rfl)
    try simp only [Act.put, List.setIfInBounds_toArray, List.set_cons_zero, List.set_cons_succ]
    refine wpAnyH_take (i := 47) (v := ?_) (by simp only [List.getElem?_toArray, List.getElem?_cons_succ, List.getElem?_cons_zero]; rfl) (by kernel_rfl) (by kernel_rfl) (by kernel_rfl) (by intro _ _ _ h; exact h) (Or.inl ⟨by rfl, ?_⟩) hHeld ?_
    rotate_left 1
    · intro wq hSw
      try dsimp only at hSw
      go_simp
      try (with_reducible rfl)
    try simp only [Act.put, List.setIfInBounds_toArray, List.set_cons_zero, List.set_cons_succ]
    refine wpAnyH_done (by kernel_rfl) ?_ _
    go_wp2
    go_ret
    exact ⟨rfl, bb.trans (hHeld.mono bb.size)⟩
theorem ExtentParts_walk (a0_0 : Int) (a0_1 : Int) (a0_2 : Int) (a0_3 : Int) (a0_4 : Option Addr) (len0_4 cap0_4 : Nat) (z0_4 : List Int) (a1 : Int) (a2 : Int) (a3 : Int) (w : World) (w0_0 : (Lit.int .i64 a0_0).wf = true) (w0_1 : (Lit.int .i64 a0_1).wf = true) (w0_2 : (Lit.int .i64 a0_2).wf = true) (w0_3 : (Lit.int .i64 a0_3).wf = true) (w0_4 : IsRow .u8 w a0_4 len0_4 cap0_4 z0_4) (w1 : (Lit.int .u8 a1).wf = true) (w2 : (Lit.int .u8 a2).wf = true) (w3 : (Lit.int .u8 a3).wf = true) :
    Calls Try.prog 4 #[.agg #[.int .i64 a0_0, .int .i64 a0_1, .int .i64 a0_2, .int .i64 a0_3, .slice a0_4 len0_4 cap0_4], .int .u8 a1, .int .u8 a2, .int .u8 a3] w (AwakePost w) := by
  obtain ⟨l1, h1⟩ := w0_4.bytes
  exact parts_core a0_0 a0_1 a0_2 a0_3 a0_4 len0_4 cap0_4 l1 a1 a2 a3 w (ext_wf w0_0) (bounds_u8 w1) (bounds_u8 w2) (bounds_u8 w3) h1
end Go.Proofs.Ytefodkkkbjgbiaa
