/-
  ChangeApart: the walk (written by gen_changeapart.py).
-/
import Derived.Test.YtbhohjbgbachhaaChArgs
import Derived.Test.YtbhohjbgbachhaaRef7h
import Derived.Deep.Cut
namespace Go.Proofs.Ytbhohjbgbachhaa
open Go.RowKit Go.Wag
set_option linter.unusedVariables false
set_option linter.unusedSimpArgs false
set_option maxRecDepth 100000 in
set_option maxHeartbeats 8000000 in
theorem chApart_core (k1 la1 n1 i1 : Int) (Ad1 : Option Addr) (md1 cd1 : Nat) (Al1 : Option Addr) (ml1 cl1 : Nat) (d1 : List UInt8) (xs1 : List Xp) (k2 la2 n2 i2 : Int) (Ad2 : Option Addr) (md2 cd2 : Nat) (Al2 : Option Addr) (ml2 cl2 : Nat) (d2 : List UInt8) (xs2 : List Xp) (a : Int) (w : World) (hu : 0 ≤ a ∧ a ≤ 65535) (hla01 : la1 ≤ 9223372036854775807) (hla1 : ∀ x ∈ xs1, x.la ≤ 9223372036854775807) (hS1 : Sl w Ad1 md1 cd1 (d1.map v8)) (hR1 : Rs extE (fun b => b < w.heap.size) w Al1 ml1 cl1 xs1) (hla02 : la2 ≤ 9223372036854775807) (hla2 : ∀ x ∈ xs2, x.la ≤ 9223372036854775807) (hS2 : Sl w Ad2 md2 cd2 (d2.map v8)) (hR2 : Rs extE (fun b => b < w.heap.size) w Al2 ml2 cl2 xs2) :
    Calls Try.prog 7 #[.agg #[.int .i64 k1, .int .i64 la1, .int .i64 n1, .int .i64 i1, .slice Ad1 md1 cd1, .slice Al1 ml1 cl1], .agg #[.int .i64 k2, .int .i64 la2, .int .i64 n2, .int .i64 i2, .slice Ad2 md2 cd2, .slice Al2 ml2 cl2], .int .u16 a] w (AwakePost w) := by
  have hl1 := Lib.hid hla1
  have hl2 := Lib.hid hla2
  obtain ⟨hu0, hu1⟩ := hu
  have bb := Below.refl w.heap.size w
  have S1 := hS1
  have R1 := hR1
  have S2 := hS2
  have R2 := hR2
  clear hS1 hR1 hla1 hS2 hR2 hla2
  go_enter Try.func7, Try.ntmps7
  replace S1 := S1.alloc (.cells #[.int .i64 k1, .int .i64 la1, .int .i64 n1, .int .i64 i1, .slice Ad1 md1 cd1, .slice Al1 ml1 cl1] 37)
  replace R1 := R1.alloc (.cells #[.int .i64 k1, .int .i64 la1, .int .i64 n1, .int .i64 i1, .slice Ad1 md1 cd1, .slice Al1 ml1 cl1] 37)
  replace S2 := S2.alloc (.cells #[.int .i64 k1, .int .i64 la1, .int .i64 n1, .int .i64 i1, .slice Ad1 md1 cd1, .slice Al1 ml1 cl1] 37)
  replace R2 := R2.alloc (.cells #[.int .i64 k1, .int .i64 la1, .int .i64 n1, .int .i64 i1, .slice Ad1 md1 cd1, .slice Al1 ml1 cl1] 37)
  replace bb := bb.alloc bb.size (.cells #[.int .i64 k1, .int .i64 la1, .int .i64 n1, .int .i64 i1, .slice Ad1 md1 cd1, .slice Al1 ml1 cl1] 37)
  have X1 := Blk.new w #[.int .i64 k1, .int .i64 la1, .int .i64 n1, .int .i64 i1, .slice Ad1 md1 cd1, .slice Al1 ml1 cl1] 37
  replace S1 := S1.alloc (.cells #[.int .i64 k2, .int .i64 la2, .int .i64 n2, .int .i64 i2, .slice Ad2 md2 cd2, .slice Al2 ml2 cl2] 37)
  replace R1 := R1.alloc (.cells #[.int .i64 k2, .int .i64 la2, .int .i64 n2, .int .i64 i2, .slice Ad2 md2 cd2, .slice Al2 ml2 cl2] 37)
  replace S2 := S2.alloc (.cells #[.int .i64 k2, .int .i64 la2, .int .i64 n2, .int .i64 i2, .slice Ad2 md2 cd2, .slice Al2 ml2 cl2] 37)
  replace R2 := R2.alloc (.cells #[.int .i64 k2, .int .i64 la2, .int .i64 n2, .int .i64 i2, .slice Ad2 md2 cd2, .slice Al2 ml2 cl2] 37)
  replace X1 := X1.alloc (.cells #[.int .i64 k2, .int .i64 la2, .int .i64 n2, .int .i64 i2, .slice Ad2 md2 cd2, .slice Al2 ml2 cl2] 37)
  replace bb := bb.alloc bb.size (.cells #[.int .i64 k2, .int .i64 la2, .int .i64 n2, .int .i64 i2, .slice Ad2 md2 cd2, .slice Al2 ml2 cl2] 37)
  have X2 := Blk.new (w.alloc (.cells #[.int .i64 k1, .int .i64 la1, .int .i64 n1, .int .i64 i1, .slice Ad1 md1 cd1, .slice Al1 ml1 cl1] 37)) #[.int .i64 k2, .int .i64 la2, .int .i64 n2, .int .i64 i2, .slice Ad2 md2 cd2, .slice Al2 ml2 cl2] 37
  simp only [World.size_alloc] at X2
  go_wp2_with fail
  generalize ((w.alloc (.cells #[.int .i64 k1, .int .i64 la1, .int .i64 n1, .int .i64 i1, .slice Ad1 md1 cd1, .slice Al1 ml1 cl1] 37)).alloc (.cells #[.int .i64 k2, .int .i64 la2, .int .i64 n2, .int .i64 i2, .slice Ad2 md2 cd2, .slice Al2 ml2 cl2] 37)) = wa at *
  have hC := awake10_any wa
  refine hC.mono ?_
  clear hC
  rintro e w1 ⟨rfl, b1⟩
  replace S1 := S1.below b1
  replace R1 := R1.below b1
  replace S2 := S2.below b1
  replace R2 := R2.below b1
  replace X1 := X1.under b1
  replace X2 := X2.under b1
  replace bb := bb.trans (b1.mono bb.size)
  obtain ⟨X1q0, X1q1, X1q2, X1q3, X1q4, X1q5, X1r0, X1r1, X1r2, X1r3, X1r4, X1r5⟩ := X1.six
  have X1l := X1.lt
  go_wp2_with fail
  clear X1q0 X1q1 X1q2 X1q3 X1q4 X1q5 X1r0 X1r1 X1r2 X1r3 X1r4 X1r5
  have hC := few10_any k1 la1 n1 i1 Ad1 md1 cd1 Al1 ml1 cl1 xs1 w1 R1
  refine hC.mono ?_
  clear hC
  rintro e w2 ⟨r, rfl, hr, b2⟩
  replace S1 := S1.below b2
  replace R1 := R1.below b2
  replace S2 := S2.below b2
  replace R2 := R2.below b2
  replace X1 := X1.under b2
  replace X2 := X2.under b2
  replace bb := bb.trans (b2.mono bb.size)
  clear hr
  cases r
  · skip
    go_wp2
    go_ret
    exact ⟨rfl, bb⟩
  obtain ⟨X2q0, X2q1, X2q2, X2q3, X2q4, X2q5, X2r0, X2r1, X2r2, X2r3, X2r4, X2r5⟩ := X2.six
  have X2l := X2.lt
  go_wp2_with fail
  clear X2q0 X2q1 X2q2 X2q3 X2q4 X2q5 X2r0 X2r1 X2r2 X2r3 X2r4 X2r5
  have hC := few10_any k2 la2 n2 i2 Ad2 md2 cd2 Al2 ml2 cl2 xs2 w2 R2
  refine hC.mono ?_
  clear hC
  rintro e w3 ⟨r, rfl, hr, b3⟩
  replace S1 := S1.below b3
  replace R1 := R1.below b3
  replace S2 := S2.below b3
  replace R2 := R2.below b3
  replace X1 := X1.under b3
  replace X2 := X2.under b3
  replace bb := bb.trans (b3.mono bb.size)
  clear hr
  cases r
  · skip
    go_wp2
    go_ret
    exact ⟨rfl, bb⟩
  have hW1 := fun W s r => chWrite_any (F := fun b => b < w.heap.size) k1 la1 n1 i1 Ad1 md1 cd1 Al1 ml1 cl1 d1 xs1 W s r hla01 hl1.out
  have hW2 := fun W s r => chWrite_any (F := fun b => b < w.heap.size) k2 la2 n2 i2 Ad2 md2 cd2 Al2 ml2 cl2 d2 xs2 W s r hla02 hl2.out
  cases hc1 : cwr ⟨k1, la1, n1, i1, d1, xs1⟩ with
  | none =>
    skip
    obtain ⟨X1q0, X1q1, X1q2, X1q3, X1q4, X1q5, X1r0, X1r1, X1r2, X1r3, X1r4, X1r5⟩ := X1.six
    have X1l := X1.lt
    go_wp2_with fail
    clear X1q0 X1q1 X1q2 X1q3 X1q4 X1q5 X1r0 X1r1 X1r2 X1r3 X1r4 X1r5
    have hC := BytesErr.no (hW1 w3 S1 R1) hc1
    refine hC.mono ?_
    clear hC
    rintro e w4 ⟨A4, m4, c4, rfl, T1, _, b4⟩
    replace S1 := S1.below b4
    replace R1 := R1.below b4
    replace S2 := S2.below b4
    replace R2 := R2.below b4
    replace X1 := X1.under b4
    replace X2 := X2.under b4
    replace bb := bb.trans (b4.mono bb.size)
    replace hc1 := Lib.hid hc1
    clear hW1
    obtain ⟨r2, hr2⟩ : ∃ r, cwr ⟨k2, la2, n2, i2, d2, xs2⟩ = r := ⟨_, rfl⟩
    simp only [hr2] at hW2
    replace hr2 := Lib.hid hr2
    obtain ⟨X2q0, X2q1, X2q2, X2q3, X2q4, X2q5, X2r0, X2r1, X2r2, X2r3, X2r4, X2r5⟩ := X2.six
    have X2l := X2.lt
    go_wp2_with fail
    clear X2q0 X2q1 X2q2 X2q3 X2q4 X2q5 X2r0 X2r1 X2r2 X2r3 X2r4 X2r5
    have hC := hW2 w4 S2 R2
    refine hC.mono ?_
    clear hC
    rintro e w5 ⟨A5, m5, c5, rfl, T2, _, b5⟩
    replace S1 := S1.below b5
    replace R1 := R1.below b5
    replace S2 := S2.below b5
    replace R2 := R2.below b5
    replace X1 := X1.under b5
    replace X2 := X2.under b5
    replace bb := bb.trans (b5.mono bb.size)
    clear hW2
    go_wp2
    all_goals go_ret
    all_goals exact ⟨rfl, bb⟩
  | some bx =>
    obtain ⟨X1q0, X1q1, X1q2, X1q3, X1q4, X1q5, X1r0, X1r1, X1r2, X1r3, X1r4, X1r5⟩ := X1.six
    have X1l := X1.lt
    go_wp2_with fail
    clear X1q0 X1q1 X1q2 X1q3 X1q4 X1q5 X1r0 X1r1 X1r2 X1r3 X1r4 X1r5
    have hC := BytesErr.ok (hW1 w3 S1 R1) hc1
    refine hC.mono ?_
    clear hC
    rintro e w4 ⟨A4, m4, c4, rfl, T1, _, b4⟩
    replace S1 := S1.below b4
    replace R1 := R1.below b4
    replace S2 := S2.below b4
    replace R2 := R2.below b4
    replace X1 := X1.under b4
    replace X2 := X2.under b4
    replace bb := bb.trans (b4.mono bb.size)
    clear hW1
    cases hc2 : cwr ⟨k2, la2, n2, i2, d2, xs2⟩ with
    | none =>
      obtain ⟨X2q0, X2q1, X2q2, X2q3, X2q4, X2q5, X2r0, X2r1, X2r2, X2r3, X2r4, X2r5⟩ := X2.six
      have X2l := X2.lt
      go_wp2_with fail
      clear X2q0 X2q1 X2q2 X2q3 X2q4 X2q5 X2r0 X2r1 X2r2 X2r3 X2r4 X2r5
      have hC := BytesErr.no (hW2 w4 S2 R2) hc2
      refine hC.mono ?_
      clear hC
      rintro e w5 ⟨A5, m5, c5, rfl, T2, _, b5⟩
      replace S1 := S1.below b5
      replace R1 := R1.below b5
      replace S2 := S2.below b5
      replace R2 := R2.below b5
      replace X1 := X1.under b5
      replace X2 := X2.under b5
      replace T1 := T1.below b5
      replace bb := bb.trans (b5.mono bb.size)
      replace hc2 := Lib.hid hc2
      replace hc1 := Lib.hid hc1
      clear hW2
      go_wp2
      all_goals go_ret
      all_goals exact ⟨rfl, bb⟩
    | some by_ =>
      obtain ⟨X2q0, X2q1, X2q2, X2q3, X2q4, X2q5, X2r0, X2r1, X2r2, X2r3, X2r4, X2r5⟩ := X2.six
      have X2l := X2.lt
      go_wp2_with fail
      clear X2q0 X2q1 X2q2 X2q3 X2q4 X2q5 X2r0 X2r1 X2r2 X2r3 X2r4 X2r5
      have hC := BytesErr.ok (hW2 w4 S2 R2) hc2
      refine hC.mono ?_
      clear hC
      rintro e w5 ⟨A5, m5, c5, rfl, T2, _, b5⟩
      replace S1 := S1.below b5
      replace R1 := R1.below b5
      replace S2 := S2.below b5
      replace R2 := R2.below b5
      replace X1 := X1.under b5
      replace X2 := X2.under b5
      replace T1 := T1.below b5
      replace bb := bb.trans (b5.mono bb.size)
      clear hW2
      have hmx := cwr_max hc1
      have hlx : bx.length = m4 := T1.len8
      rw [hlx] at hmx
      obtain ⟨q, hq⟩ : ∃ q : Nat, a % (m4 : Int) = (q : Int) := ⟨(a % (m4 : Int)).toNat, by have := Int.emod_nonneg a (show (m4 : Int) ≠ 0 by omega); omega⟩
      have hq2 : q < m4 := by have := Int.emod_lt_of_pos a (show 0 < (m4 : Int) by omega); omega
      have hqt : Int.tmod a (m4 : Int) = (q : Int) := by rw [Int.tmod_eq_emod_of_nonneg (by omega)]; exact hq
      have hne : ¬ (m4 : Int) = 0 := by omega
      have ha1 : wrap64 a = a := by unfold wrap64; omega
      have ha2 : IntKind.i64.wrap a = a := (IntWalk.i64_left _).trans ha1
      have h9 : ¬ (m4 : Int) < 9 := by omega
      have hcutn := crd_cut hc1 (m := q) (by rw [hlx]; exact hq2)
      have hmore := crd_more hc1 0
      have hcap4 := T1.cap
      have hbig4 := T1.big
      obtain ⟨sb, hsb⟩ : ∃ x, csame ⟨k1, la1, n1, i1, d1, xs1⟩ ⟨k2, la2, n2, i2, d2, xs2⟩ = x := ⟨_, rfl⟩
      have hbb : (bx == by_) = sb := by
        rw [← hsb, Bool.eq_iff_iff, beq_iff_eq, csame_iff]
        constructor
        · rintro rfl
          exact cwr_inj hc1 hc2
        · intro e
          rw [e] at hc1
          exact Option.some.inj (hc1.symm.trans hc2)
      have hbs : ((⟨bx.toArray⟩ : ByteArray) == ⟨by_.toArray⟩) = sb := by rw [chstr]; exact hbb
      have hS4 := T1.upto (m := q) (Nat.le_of_lt hq2)
      rw [← List.map_take] at hS4
      have hC0 := ChPost.none (chRead_any A4 q c4 _ w5 hS4 (by omega)) hcutn
      replace hcutn := Lib.hid hcutn
      replace hmore := Lib.hid hmore
      replace hc1 := Lib.hid hc1
      replace hc2 := Lib.hid hc2
      replace hlx := Lib.hid hlx
      replace hq := Lib.hid hq
      go_wp2_with fail
      refine hC0.mono ?_
      clear hC0 hS4
      rintro e w6 ⟨Ae, me, ce, Af, mf, cf, rfl, _, _, b6⟩
      replace S1 := S1.below b6
      replace R1 := R1.below b6
      replace S2 := S2.below b6
      replace R2 := R2.below b6
      replace X1 := X1.under b6
      replace X2 := X2.under b6
      replace T1 := T1.below b6
      replace T2 := T2.below b6
      replace bb := bb.trans (b6.mono bb.size)
      try dsimp only [ch0]
      obtain ⟨ib, hib, hz0, hz1, hz2⟩ := info_parts i5
      go_upto_region 11 with (fail)
      replace S1 := S1.alloc (.cells #[.int .i64 0, .int .i64 0, .int .i64 0, .int .i64 0, .slice Ae me ce, .slice Af mf cf] 37)
      replace R1 := R1.alloc (.cells #[.int .i64 0, .int .i64 0, .int .i64 0, .int .i64 0, .slice Ae me ce, .slice Af mf cf] 37)
      replace S2 := S2.alloc (.cells #[.int .i64 0, .int .i64 0, .int .i64 0, .int .i64 0, .slice Ae me ce, .slice Af mf cf] 37)
      replace R2 := R2.alloc (.cells #[.int .i64 0, .int .i64 0, .int .i64 0, .int .i64 0, .slice Ae me ce, .slice Af mf cf] 37)
      replace X1 := X1.alloc (.cells #[.int .i64 0, .int .i64 0, .int .i64 0, .int .i64 0, .slice Ae me ce, .slice Af mf cf] 37)
      replace X2 := X2.alloc (.cells #[.int .i64 0, .int .i64 0, .int .i64 0, .int .i64 0, .slice Ae me ce, .slice Af mf cf] 37)
      replace T1 := T1.alloc (.cells #[.int .i64 0, .int .i64 0, .int .i64 0, .int .i64 0, .slice Ae me ce, .slice Af mf cf] 37)
      replace T2 := T2.alloc (.cells #[.int .i64 0, .int .i64 0, .int .i64 0, .int .i64 0, .slice Ae me ce, .slice Af mf cf] 37)
      replace bb := bb.alloc bb.size (.cells #[.int .i64 0, .int .i64 0, .int .i64 0, .int .i64 0, .slice Ae me ce, .slice Af mf cf] 37)
      generalize w6.alloc (.cells #[.int .i64 0, .int .i64 0, .int .i64 0, .int .i64 0, .slice Ae me ce, .slice Af mf cf] 37) = w7 at *
      have HO := Own.empty w7 5
      have HC := T1.alloc (.cells #[] 5)
      go_wp2_with (at_builtin; refine wpList_app rfl (.tmp 59) (.tmp 60) 35 rfl rfl HO ib (.int .u8 0) 1 Try.underlying35 hib hz0 hz1 hz2 rfl _ _ _ _ rfl HC (oneCell8 _) ?_ ?_ ?_)
      · omega
      · omega
      intro A8 c8 w8 hw8
      have hw8' := hw8.alloc (.cells #[.int .u8 0] 5)
      have s1 := (show Sl (w8.alloc (.cells #[.int .u8 0] 5)) (some ⟨w8.heap.size, 0, none⟩) 1 1 (([0] : List UInt8).map v8) from sl8 w8 [0] (by decide))
      go_wp2_with (at_builtin; refine wpList_app rfl (.tmp 61) (.tmp 62) 35 rfl rfl hw8' ib (.int .u8 0) 1 Try.underlying35 hib hz0 hz1 hz2 rfl _ _ _ _ rfl s1 (oneCell8 _) ?_ ?_ ?_)
      · omega
      · omega
      intro A9 c9 w9 hw9
      have b9 := hw9.below_made
      have s9 : Sl w9 A9 (m4 + 1) c9 ((bx ++ [0]).map v8) := by rw [List.map_append]; exact hw9.to_sl
      clear hw8 hw8' hw9 s1 HO HC
      replace S1 := S1.below b9
      replace R1 := R1.below b9
      replace S2 := S2.below b9
      replace R2 := R2.below b9
      replace X1 := X1.under b9
      replace X2 := X2.under b9
      replace T1 := T1.below b9
      replace T2 := T2.below b9
      replace bb := bb.trans (b9.mono bb.size)
      have hC0 := ChPost.none (chRead_any A9 _ c9 _ w9 s9 (by omega)) hmore.out
      go_wp2_with fail
      refine hC0.mono ?_
      clear hC0 s9
      rintro e w10 ⟨Ag, mg, cg, Ah, mh, ch, rfl, _, _, b10⟩
      replace S1 := S1.below b10
      replace R1 := R1.below b10
      replace S2 := S2.below b10
      replace R2 := R2.below b10
      replace X1 := X1.under b10
      replace X2 := X2.under b10
      replace T1 := T1.below b10
      replace T2 := T2.below b10
      replace bb := bb.trans (b10.mono bb.size)
      try dsimp only [ch0]
      obtain ⟨X1q0, X1q1, X1q2, X1q3, X1q4, X1q5, X1r0, X1r1, X1r2, X1r3, X1r4, X1r5⟩ := X1.six
      have X1l := X1.lt
      obtain ⟨X2q0, X2q1, X2q2, X2q3, X2q4, X2q5, X2r0, X2r1, X2r2, X2r3, X2r4, X2r5⟩ := X2.six
      have X2l := X2.lt
      replace S1 := S1.alloc (.cells #[.int .i64 0, .int .i64 0, .int .i64 0, .int .i64 0, .slice Ag mg cg, .slice Ah mh ch] 37)
      replace R1 := R1.alloc (.cells #[.int .i64 0, .int .i64 0, .int .i64 0, .int .i64 0, .slice Ag mg cg, .slice Ah mh ch] 37)
      replace S2 := S2.alloc (.cells #[.int .i64 0, .int .i64 0, .int .i64 0, .int .i64 0, .slice Ag mg cg, .slice Ah mh ch] 37)
      replace R2 := R2.alloc (.cells #[.int .i64 0, .int .i64 0, .int .i64 0, .int .i64 0, .slice Ag mg cg, .slice Ah mh ch] 37)
      replace X1 := X1.alloc (.cells #[.int .i64 0, .int .i64 0, .int .i64 0, .int .i64 0, .slice Ag mg cg, .slice Ah mh ch] 37)
      replace X2 := X2.alloc (.cells #[.int .i64 0, .int .i64 0, .int .i64 0, .int .i64 0, .slice Ag mg cg, .slice Ah mh ch] 37)
      replace T1 := T1.alloc (.cells #[.int .i64 0, .int .i64 0, .int .i64 0, .int .i64 0, .slice Ag mg cg, .slice Ah mh ch] 37)
      replace T2 := T2.alloc (.cells #[.int .i64 0, .int .i64 0, .int .i64 0, .int .i64 0, .slice Ag mg cg, .slice Ah mh ch] 37)
      replace bb := bb.alloc bb.size (.cells #[.int .i64 0, .int .i64 0, .int .i64 0, .int .i64 0, .slice Ag mg cg, .slice Ah mh ch] 37)
      have V3 := Blk.new w10 #[.int .i64 0, .int .i64 0, .int .i64 0, .int .i64 0, .slice Ag mg cg, .slice Ah mh ch] 37
      go_wp2_with fail
      clear X1q0 X1q1 X1q2 X1q3 X1q4 X1q5 X1r0 X1r1 X1r2 X1r3 X1r4 X1r5
      clear X2q0 X2q1 X2q2 X2q3 X2q4 X2q5 X2r0 X2r1 X2r2 X2r3 X2r4 X2r5
      generalize (w10.alloc (.cells #[.int .i64 0, .int .i64 0, .int .i64 0, .int .i64 0, .slice Ag mg cg, .slice Ah mh ch] 37)) = w11 at *
      clear V3
      have hC := gSame_any k1 la1 n1 i1 Ad1 md1 cd1 Al1 ml1 cl1 d1 xs1 k2 la2 n2 i2 Ad2 md2 cd2 Al2 ml2 cl2 d2 xs2 w11 S1 S2 R1 R2
      rw [hsb] at hC
      replace hsb := Lib.hid hsb
      refine hC.mono ?_
      clear hC
      rintro e w12 ⟨rfl, b12⟩
      replace S1 := S1.below b12
      replace R1 := R1.below b12
      replace S2 := S2.below b12
      replace R2 := R2.below b12
      replace X1 := X1.under b12
      replace X2 := X2.under b12
      replace T1 := T1.below b12
      replace T2 := T2.below b12
      replace bb := bb.trans (b12.mono bb.size)
      have e1 := str_of T1
      have e2 := str_of T2
      go_wp2
      go_ret
      exact ⟨rfl, bb⟩
theorem ChangeApart_walk (a0_0 : Int) (a0_1 : Int) (a0_2 : Int) (a0_3 : Int) (a0_4 : Option Addr) (len0_4 cap0_4 : Nat) (z0_4 : List Int) (a0_5 : Option Addr) (len0_5 cap0_5 : Nat) (a1_0 : Int) (a1_1 : Int) (a1_2 : Int) (a1_3 : Int) (a1_4 : Option Addr) (len1_4 cap1_4 : Nat) (z1_4 : List Int) (a1_5 : Option Addr) (len1_5 cap1_5 : Nat) (a2 : Int) (w : World) (w0_0 : (Lit.int .i64 a0_0).wf = true) (w0_1 : (Lit.int .i64 a0_1).wf = true) (w0_2 : (Lit.int .i64 a0_2).wf = true) (w0_3 : (Lit.int .i64 a0_3).wf = true) (w0_4 : IsRow .u8 w a0_4 len0_4 cap0_4 z0_4) (w0_5 : IsSts [.num .i64, .num .i64, .num .i64, .num .i64, .row .u8] w a0_5 len0_5 cap0_5) (w1_0 : (Lit.int .i64 a1_0).wf = true) (w1_1 : (Lit.int .i64 a1_1).wf = true) (w1_2 : (Lit.int .i64 a1_2).wf = true) (w1_3 : (Lit.int .i64 a1_3).wf = true) (w1_4 : IsRow .u8 w a1_4 len1_4 cap1_4 z1_4) (w1_5 : IsSts [.num .i64, .num .i64, .num .i64, .num .i64, .row .u8] w a1_5 len1_5 cap1_5) (w2 : (Lit.int .u16 a2).wf = true) :
    Calls Try.prog 7 #[.agg #[.int .i64 a0_0, .int .i64 a0_1, .int .i64 a0_2, .int .i64 a0_3, .slice a0_4 len0_4 cap0_4, .slice a0_5 len0_5 cap0_5], .agg #[.int .i64 a1_0, .int .i64 a1_1, .int .i64 a1_2, .int .i64 a1_3, .slice a1_4 len1_4 cap1_4, .slice a1_5 len1_5 cap1_5], .int .u16 a2] w (AwakePost w) := by
  obtain ⟨d1, S1⟩ := w0_4.bytes
  obtain ⟨xs1, hla1, R1⟩ := exts_of_sts w0_5
  obtain ⟨d2, S2⟩ := w1_4.bytes
  obtain ⟨xs2, hla2, R2⟩ := exts_of_sts w1_5
  exact chApart_core a0_0 a0_1 a0_2 a0_3 a0_4 len0_4 cap0_4 a0_5 len0_5 cap0_5 d1 xs1 a1_0 a1_1 a1_2 a1_3 a1_4 len1_4 cap1_4 a1_5 len1_5 cap1_5 d2 xs2 a2 w (by have := bounds_u16 w2; omega) (ext_wf w0_1) hla1 S1 R1 (ext_wf w1_1) hla2 S2 R2
end Go.Proofs.Ytbhohjbgbachhaa
