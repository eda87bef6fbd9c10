/-
  The calls at every statement's head of stage 7 answer as the document says (written by gen_extawake.py).
-/
import Derived.Test.YtepaojegcaapfaaExt9
import Derived.Test.YtepaojegcaapfaaRef7c
namespace Go.Proofs.Ytepaojegcaapfaa
open Go.RowKit Go.Wag
set_option linter.unusedVariables false
set_option maxRecDepth 20000
set_option linter.unusedSimpArgs false
/-- An extent in memory of its own, its numbers named, and a value beside it. -/
def EQ (u : Value) (w : World) (y : Xp) (e : Ending) (w' : World) : Prop :=
  ∃ A m c, Hid (m = y.l.length) ∧ e = .returned (.tuple #[.agg #[.int .i64 y.la, .int .i64 y.n, .int .i64 y.k, .int .i64 y.g, .slice A m c], u]) ∧ Nw 5 w w' A m c (y.l.map v8) ∧ Below w.heap.size w w'
theorem EPost.eq {P : Program} {f : FuncId} {args : Array Value} {u u' : Value} {w : World} {y y' : Xp} (h : Calls P f args w (EPost u w y)) (hu : u = u') (hy : y = y') : Calls P f args w (EQ u' w y') := by
  subst hu hy
  exact h.mono fun e w' ⟨A, c, he, hN, hb⟩ => ⟨A, y.l.length, c, rfl, he, hN, hb⟩
theorem eCut_ok (la n k g : Int) (A : Option Addr) (m c : Nat) (l : List UInt8) (a q : Int) (w : World) (hla : la ≤ 9223372036854775807) (h : Sl w A m c (l.map v8)) {y : Xp} (hr : xcut ⟨la, n, k, g, l⟩ a q = some y) : Calls Try.prog 44 #[.agg #[.int .i64 la, .int .i64 n, .int .i64 k, .int .i64 g, .slice A m c], .int .i64 a, .int .i64 q] w (EQ (.bool true) w y) := EPost.eq (eCut_any la n k g A m c l a q w hla h) (by rw [hr]; rfl) (by rw [hr]; rfl)
theorem eCut_no (la n k g : Int) (A : Option Addr) (m c : Nat) (l : List UInt8) (a q : Int) (w : World) (hla : la ≤ 9223372036854775807) (h : Sl w A m c (l.map v8)) (hr : xcut ⟨la, n, k, g, l⟩ a q = none) : Calls Try.prog 44 #[.agg #[.int .i64 la, .int .i64 n, .int .i64 k, .int .i64 g, .slice A m c], .int .i64 a, .int .i64 q] w (EQ (.bool false) w x0) := EPost.eq (eCut_any la n k g A m c l a q w hla h) (by rw [hr]; rfl) (by rw [hr]; rfl)
theorem eJoin_ok (la1 n1 k1 g1 : Int) (A1 : Option Addr) (m1 c1 : Nat) (l1 : List UInt8) (la2 n2 k2 g2 : Int) (A2 : Option Addr) (m2 c2 : Nat) (l2 : List UInt8) (w : World) (hla1 : la1 ≤ 9223372036854775807) (hla2 : la2 ≤ 9223372036854775807) (h1 : Sl w A1 m1 c1 (l1.map v8)) (h2 : Sl w A2 m2 c2 (l2.map v8)) {y : Xp} (hr : xjoin ⟨la1, n1, k1, g1, l1⟩ ⟨la2, n2, k2, g2, l2⟩ = some y) : Calls Try.prog 27 #[.agg #[.int .i64 la1, .int .i64 n1, .int .i64 k1, .int .i64 g1, .slice A1 m1 c1], .agg #[.int .i64 la2, .int .i64 n2, .int .i64 k2, .int .i64 g2, .slice A2 m2 c2]] w (EQ (.int .i64 0) w y) := EPost.eq (eJoin_any la1 n1 k1 g1 A1 m1 c1 l1 la2 n2 k2 g2 A2 m2 c2 l2 w hla1 hla2 h1 h2) (by rw [hr]; rfl) (by rw [hr]; rfl)
theorem eJoin_no (la1 n1 k1 g1 : Int) (A1 : Option Addr) (m1 c1 : Nat) (l1 : List UInt8) (la2 n2 k2 g2 : Int) (A2 : Option Addr) (m2 c2 : Nat) (l2 : List UInt8) (w : World) (hla1 : la1 ≤ 9223372036854775807) (hla2 : la2 ≤ 9223372036854775807) (h1 : Sl w A1 m1 c1 (l1.map v8)) (h2 : Sl w A2 m2 c2 (l2.map v8)) (hr : xjoin ⟨la1, n1, k1, g1, l1⟩ ⟨la2, n2, k2, g2, l2⟩ = none) : Calls Try.prog 27 #[.agg #[.int .i64 la1, .int .i64 n1, .int .i64 k1, .int .i64 g1, .slice A1 m1 c1], .agg #[.int .i64 la2, .int .i64 n2, .int .i64 k2, .int .i64 g2, .slice A2 m2 c2]] w (EQ (.int .i64 70) w x0) := EPost.eq (eJoin_any la1 n1 k1 g1 A1 m1 c1 l1 la2 n2 k2 g2 A2 m2 c2 l2 w hla1 hla2 h1 h2) (by rw [hr]; rfl) (by rw [hr]; rfl)
theorem fSame_eq (la1 n1 k1 g1 : Int) (A1 : Option Addr) (m1 c1 : Nat) (l1 : List UInt8) (la2 n2 k2 g2 : Int) (A2 : Option Addr) (m2 c2 : Nat) (l2 : List UInt8) (w : World) (h1 : Sl w A1 m1 c1 (l1.map v8)) (h2 : Sl w A2 m2 c2 (l2.map v8)) (he : (⟨la1, n1, k1, g1, l1⟩ : Xp) = ⟨la2, n2, k2, g2, l2⟩) : Calls Try.prog 25 #[.agg #[.int .i64 la1, .int .i64 n1, .int .i64 k1, .int .i64 g1, .slice A1 m1 c1], .agg #[.int .i64 la2, .int .i64 n2, .int .i64 k2, .int .i64 g2, .slice A2 m2 c2]] w fun e w' => e = .returned (.bool true) ∧ Below w.heap.size w w' := by
  have := fSame_any la1 n1 k1 g1 A1 m1 c1 l1 la2 n2 k2 g2 A2 m2 c2 l2 w h1 h2
  rw [he, xsame_self] at this
  exact this
/-- What the document writes. -/
def ax : Xp := ⟨3, 5, 1, 2, []⟩
theorem aw_cut : xcut ⟨3, 5, 1, 2, []⟩ 5 9 = some ⟨5, 3, 1, 2, []⟩ := by rfl
theorem aw_cutno : xcut ⟨3, 5, 1, 2, []⟩ 8 9 = none := by rfl
theorem aw_join : xjoin ⟨3, 2, 1, 2, []⟩ ⟨5, 3, 1, 2, []⟩ = some ⟨3, 5, 1, 2, []⟩ := by rfl
theorem aw_joinno : xjoin ⟨3, 5, 1, 2, []⟩ ⟨5, 3, 1, 2, []⟩ = none := by rfl
theorem aw_wr : xwr [⟨3, 5, 1, 2, []⟩] = some [1, 3, 5, 1, 2, 0, 0, 0] := by rfl
theorem aw_rd : xrd [1, 3, 5, 1, 2, 0, 0, 0] = some [⟨3, 5, 1, 2, []⟩] := xrd_wr aw_wr
theorem aw_none : xrd [] = none := rfl
theorem aw_ck : xchk 3 5 1 2 0 = true := by decide
theorem aw_ck0 : xchk 0 0 0 0 0 = false := by decide
theorem aw_by : (xbytes ⟨3, 5, 1, 2, []⟩).length = 160 := by decide

set_option maxRecDepth 100000 in
set_option maxHeartbeats 4000000 in
theorem awake7_any (w : World) : Calls Try.prog 12 #[] w (AwakePost w) := by
  have bb := Below.refl w.heap.size w
  go_enter Try.func12, Try.ntmps12
  replace bb := bb.alloc bb.size (.cells #[.int .i64 3, .int .i64 5, .int .i64 1, .int .i64 2, .slice none 0 0] 38)
  have V1 := Blk.new w #[.int .i64 3, .int .i64 5, .int .i64 1, .int .i64 2, .slice none 0 0] 38
  obtain ⟨p0, p1, p2, p3, p4, _⟩ := V1.five
  go_wp2_with fail
  generalize (w.alloc (.cells #[.int .i64 3, .int .i64 5, .int .i64 1, .int .i64 2, .slice none 0 0] 38)) = wa at *
  clear p0 p1 p2 p3 p4
  have hC := eCut_ok 3 5 1 2 none 0 0 [] 5 9 wa (by decide) (Sl.nil _) aw_cut
  refine hC.mono ?_
  clear hC
  rintro e w2 ⟨A2, m2, c2, hm2, rfl, N2, b2⟩
  replace V1 := V1.under b2
  replace bb := bb.trans (b2.mono bb.size)
  obtain rfl : m2 = 0 := hm2.out
  have S2 := N2.sl
  clear N2
  try dsimp only
  obtain ⟨V1q0, V1q1, V1q2, V1q3, V1q4, V1r0, V1r1, V1r2, V1r3, V1r4⟩ := V1.five
  have V1l := V1.lt
  replace V1 := V1.alloc (.cells #[.int .i64 5, .int .i64 3, .int .i64 1, .int .i64 2, .slice A2 0 c2] 38)
  replace S2 := S2.alloc (.cells #[.int .i64 5, .int .i64 3, .int .i64 1, .int .i64 2, .slice A2 0 c2] 38)
  replace bb := bb.alloc bb.size (.cells #[.int .i64 5, .int .i64 3, .int .i64 1, .int .i64 2, .slice A2 0 c2] 38)
  have V2 := Blk.new w2 #[.int .i64 5, .int .i64 3, .int .i64 1, .int .i64 2, .slice A2 0 c2] 38
  go_wp2_with fail
  clear V1q0 V1q1 V1q2 V1q3 V1q4 V1r0 V1r1 V1r2 V1r3 V1r4
  generalize (w2.alloc (.cells #[.int .i64 5, .int .i64 3, .int .i64 1, .int .i64 2, .slice A2 0 c2] 38)) = wb at *
  have hC := eCut_no 3 5 1 2 none 0 0 [] 8 9 wb (by decide) (Sl.nil _) aw_cutno
  refine hC.mono ?_
  clear hC
  rintro e w3 ⟨A3, m3, c3, hm3, rfl, _, b3⟩
  replace V1 := V1.under b3
  replace S2 := S2.below b3
  replace V2 := V2.under b3
  replace bb := bb.trans (b3.mono bb.size)
  obtain rfl : m3 = 0 := hm3.out
  try dsimp only [x0]
  obtain ⟨V2q0, V2q1, V2q2, V2q3, V2q4, V2r0, V2r1, V2r2, V2r3, V2r4⟩ := V2.five
  have V2l := V2.lt
  replace V1 := V1.alloc (.cells #[.int .i64 0, .int .i64 0, .int .i64 0, .int .i64 0, .slice A3 0 c3] 38)
  replace S2 := S2.alloc (.cells #[.int .i64 0, .int .i64 0, .int .i64 0, .int .i64 0, .slice A3 0 c3] 38)
  replace V2 := V2.alloc (.cells #[.int .i64 0, .int .i64 0, .int .i64 0, .int .i64 0, .slice A3 0 c3] 38)
  replace bb := bb.alloc bb.size (.cells #[.int .i64 0, .int .i64 0, .int .i64 0, .int .i64 0, .slice A3 0 c3] 38)
  have V3 := Blk.new w3 #[.int .i64 0, .int .i64 0, .int .i64 0, .int .i64 0, .slice A3 0 c3] 38
  go_wp2_with fail
  clear V2q0 V2q1 V2q2 V2q3 V2q4 V2r0 V2r1 V2r2 V2r3 V2r4
  generalize (w3.alloc (.cells #[.int .i64 0, .int .i64 0, .int .i64 0, .int .i64 0, .slice A3 0 c3] 38)) = wc at *
  have hC := eJoin_ok 3 2 1 2 none 0 0 [] 5 3 1 2 A2 0 c2 [] wc (by decide) (by decide) (Sl.nil _) S2 aw_join
  refine hC.mono ?_
  clear hC
  rintro e w4 ⟨A4, m4, c4, hm4, rfl, N4, b4⟩
  replace V1 := V1.under b4
  replace S2 := S2.below b4
  replace V2 := V2.under b4
  replace V3 := V3.under b4
  replace bb := bb.trans (b4.mono bb.size)
  obtain rfl : m4 = 0 := hm4.out
  have S4 := N4.sl
  clear N4
  try dsimp only
  obtain ⟨V1q0, V1q1, V1q2, V1q3, V1q4, V1r0, V1r1, V1r2, V1r3, V1r4⟩ := V1.five
  have V1l := V1.lt
  obtain ⟨V2q0, V2q1, V2q2, V2q3, V2q4, V2r0, V2r1, V2r2, V2r3, V2r4⟩ := V2.five
  have V2l := V2.lt
  replace V1 := V1.alloc (.cells #[.int .i64 3, .int .i64 5, .int .i64 1, .int .i64 2, .slice A4 0 c4] 38)
  replace S2 := S2.alloc (.cells #[.int .i64 3, .int .i64 5, .int .i64 1, .int .i64 2, .slice A4 0 c4] 38)
  replace V2 := V2.alloc (.cells #[.int .i64 3, .int .i64 5, .int .i64 1, .int .i64 2, .slice A4 0 c4] 38)
  replace V3 := V3.alloc (.cells #[.int .i64 3, .int .i64 5, .int .i64 1, .int .i64 2, .slice A4 0 c4] 38)
  replace S4 := S4.alloc (.cells #[.int .i64 3, .int .i64 5, .int .i64 1, .int .i64 2, .slice A4 0 c4] 38)
  replace bb := bb.alloc bb.size (.cells #[.int .i64 3, .int .i64 5, .int .i64 1, .int .i64 2, .slice A4 0 c4] 38)
  have V4 := Blk.new w4 #[.int .i64 3, .int .i64 5, .int .i64 1, .int .i64 2, .slice A4 0 c4] 38
  go_wp2_with fail
  clear V1q0 V1q1 V1q2 V1q3 V1q4 V1r0 V1r1 V1r2 V1r3 V1r4
  clear V2q0 V2q1 V2q2 V2q3 V2q4 V2r0 V2r1 V2r2 V2r3 V2r4
  generalize (w4.alloc (.cells #[.int .i64 3, .int .i64 5, .int .i64 1, .int .i64 2, .slice A4 0 c4] 38)) = wd at *
  have hC := eJoin_no 3 5 1 2 none 0 0 [] 5 3 1 2 A2 0 c2 [] wd (by decide) (by decide) (Sl.nil _) S2 aw_joinno
  refine hC.mono ?_
  clear hC
  rintro e w5 ⟨A5, m5, c5, hm5, rfl, _, b5⟩
  replace V1 := V1.under b5
  replace S2 := S2.below b5
  replace V2 := V2.under b5
  replace V3 := V3.under b5
  replace S4 := S4.below b5
  replace V4 := V4.under b5
  replace bb := bb.trans (b5.mono bb.size)
  obtain rfl : m5 = 0 := hm5.out
  try dsimp only [x0]
  obtain ⟨V1q0, V1q1, V1q2, V1q3, V1q4, V1r0, V1r1, V1r2, V1r3, V1r4⟩ := V1.five
  have V1l := V1.lt
  replace V1 := V1.alloc (.cells #[.int .i64 0, .int .i64 0, .int .i64 0, .int .i64 0, .slice A5 0 c5] 38)
  replace S2 := S2.alloc (.cells #[.int .i64 0, .int .i64 0, .int .i64 0, .int .i64 0, .slice A5 0 c5] 38)
  replace V2 := V2.alloc (.cells #[.int .i64 0, .int .i64 0, .int .i64 0, .int .i64 0, .slice A5 0 c5] 38)
  replace V3 := V3.alloc (.cells #[.int .i64 0, .int .i64 0, .int .i64 0, .int .i64 0, .slice A5 0 c5] 38)
  replace S4 := S4.alloc (.cells #[.int .i64 0, .int .i64 0, .int .i64 0, .int .i64 0, .slice A5 0 c5] 38)
  replace V4 := V4.alloc (.cells #[.int .i64 0, .int .i64 0, .int .i64 0, .int .i64 0, .slice A5 0 c5] 38)
  replace bb := bb.alloc bb.size (.cells #[.int .i64 0, .int .i64 0, .int .i64 0, .int .i64 0, .slice A5 0 c5] 38)
  have V5 := Blk.new w5 #[.int .i64 0, .int .i64 0, .int .i64 0, .int .i64 0, .slice A5 0 c5] 38
  replace V1 := V1.alloc (.cells #[.int .i64 3, .int .i64 5, .int .i64 1, .int .i64 2, .slice none 0 0] 38)
  replace S2 := S2.alloc (.cells #[.int .i64 3, .int .i64 5, .int .i64 1, .int .i64 2, .slice none 0 0] 38)
  replace V2 := V2.alloc (.cells #[.int .i64 3, .int .i64 5, .int .i64 1, .int .i64 2, .slice none 0 0] 38)
  replace V3 := V3.alloc (.cells #[.int .i64 3, .int .i64 5, .int .i64 1, .int .i64 2, .slice none 0 0] 38)
  replace S4 := S4.alloc (.cells #[.int .i64 3, .int .i64 5, .int .i64 1, .int .i64 2, .slice none 0 0] 38)
  replace V4 := V4.alloc (.cells #[.int .i64 3, .int .i64 5, .int .i64 1, .int .i64 2, .slice none 0 0] 38)
  replace V5 := V5.alloc (.cells #[.int .i64 3, .int .i64 5, .int .i64 1, .int .i64 2, .slice none 0 0] 38)
  replace bb := bb.alloc bb.size (.cells #[.int .i64 3, .int .i64 5, .int .i64 1, .int .i64 2, .slice none 0 0] 38)
  have Bl := Blk.new (w5.alloc (.cells #[.int .i64 0, .int .i64 0, .int .i64 0, .int .i64 0, .slice A5 0 c5] 38)) #[.int .i64 3, .int .i64 5, .int .i64 1, .int .i64 2, .slice none 0 0] 38
  simp only [World.size_alloc] at Bl
  go_wp2_with fail
  clear V1q0 V1q1 V1q2 V1q3 V1q4 V1r0 V1r1 V1r2 V1r3 V1r4
  generalize ((w5.alloc (.cells #[.int .i64 0, .int .i64 0, .int .i64 0, .int .i64 0, .slice A5 0 c5] 38)).alloc (.cells #[.int .i64 3, .int .i64 5, .int .i64 1, .int .i64 2, .slice none 0 0] 38)) = we at *
  have hR := rs_ext1 (x := ⟨3, 5, 1, 2, []⟩) rfl Bl (Sl.nil _)
  have hC := BytesErr.ok (eWrite_any [⟨3, 5, 1, 2, []⟩] _ 1 1 we hR (by intro x hx; simp only [List.mem_cons, List.not_mem_nil, or_false] at hx; subst hx; decide)) aw_wr
  refine hC.mono ?_
  clear hC
  rintro e w6 ⟨A6, m6, c6, rfl, S6, _, b6⟩
  replace V1 := V1.under b6
  replace S2 := S2.below b6
  replace V2 := V2.under b6
  replace V3 := V3.under b6
  replace S4 := S4.below b6
  replace V4 := V4.under b6
  replace V5 := V5.under b6
  replace Bl := Bl.under b6
  replace bb := bb.trans (b6.mono bb.size)
  obtain rfl : 8 = m6 := by simpa using S6.len
  clear hR Bl
  go_wp2_with fail
  have hC0 := eRead_any A6 8 c6 _ w6 S6 (by omega)
  rw [aw_rd] at hC0
  have hC := hC0
  refine hC.mono ?_
  clear hC
  rintro e w7 ⟨A7, m7, c7, hm7, rfl, R7, b7⟩
  replace V1 := V1.under b7
  replace S2 := S2.below b7
  replace V2 := V2.under b7
  replace V3 := V3.under b7
  replace S4 := S4.below b7
  replace V4 := V4.under b7
  replace V5 := V5.under b7
  replace S6 := S6.below b7
  replace bb := bb.trans (b7.mono bb.size)
  obtain rfl : m7 = 1 := hm7.out
  dsimp only [Option.getD_some] at R7
  try simp only [errOf, Option.isSome_some, if_true]
  clear hC0
  go_wp2_with fail
  have hC0 := eRead_any none 0 0 [] w7 (Sl.nil _) (by omega)
  rw [aw_none] at hC0
  have hC := hC0
  refine hC.mono ?_
  clear hC
  rintro e w8 ⟨A8, m8, c8, hm8, rfl, _, b8⟩
  replace V1 := V1.under b8
  replace S2 := S2.below b8
  replace V2 := V2.under b8
  replace V3 := V3.under b8
  replace S4 := S4.below b8
  replace V4 := V4.under b8
  replace V5 := V5.under b8
  replace S6 := S6.below b8
  replace R7 := R7.below b8
  replace bb := bb.trans (b8.mono bb.size)
  obtain rfl : m8 = 0 := hm8.out
  clear hC0
  obtain ⟨V2q0, V2q1, V2q2, V2q3, V2q4, V2r0, V2r1, V2r2, V2r3, V2r4⟩ := V2.five
  have V2l := V2.lt
  go_wp2_with fail
  clear V2q0 V2q1 V2q2 V2q3 V2q4 V2r0 V2r1 V2r2 V2r3 V2r4
  have hC := fSame_eq 5 3 1 2 A2 0 c2 [] 5 3 1 2 none 0 0 [] w8 S2 (Sl.nil _) rfl
  refine hC.mono ?_
  clear hC
  rintro e w9 ⟨rfl, b9⟩
  replace V1 := V1.under b9
  replace S2 := S2.below b9
  replace V2 := V2.under b9
  replace V3 := V3.under b9
  replace S4 := S4.below b9
  replace V4 := V4.under b9
  replace V5 := V5.under b9
  replace S6 := S6.below b9
  replace R7 := R7.below b9
  replace bb := bb.trans (b9.mono bb.size)
  obtain ⟨V4q0, V4q1, V4q2, V4q3, V4q4, V4r0, V4r1, V4r2, V4r3, V4r4⟩ := V4.five
  have V4l := V4.lt
  obtain ⟨V1q0, V1q1, V1q2, V1q3, V1q4, V1r0, V1r1, V1r2, V1r3, V1r4⟩ := V1.five
  have V1l := V1.lt
  go_wp2_with fail
  clear V4q0 V4q1 V4q2 V4q3 V4q4 V4r0 V4r1 V4r2 V4r3 V4r4
  clear V1q0 V1q1 V1q2 V1q3 V1q4 V1r0 V1r1 V1r2 V1r3 V1r4
  have hC := fSame_eq 3 5 1 2 A4 0 c4 [] 3 5 1 2 none 0 0 [] w9 S4 (Sl.nil _) rfl
  refine hC.mono ?_
  clear hC
  rintro e w10 ⟨rfl, b10⟩
  replace V1 := V1.under b10
  replace S2 := S2.below b10
  replace V2 := V2.under b10
  replace V3 := V3.under b10
  replace S4 := S4.below b10
  replace V4 := V4.under b10
  replace V5 := V5.under b10
  replace S6 := S6.below b10
  replace R7 := R7.below b10
  replace bb := bb.trans (b10.mono bb.size)
  obtain ⟨V1q0, V1q1, V1q2, V1q3, V1q4, V1r0, V1r1, V1r2, V1r3, V1r4⟩ := V1.five
  have V1l := V1.lt
  replace V1 := V1.alloc (.cells #[.int .i64 3, .int .i64 5, .int .i64 1, .int .i64 2, .slice none 0 0] 38)
  replace S2 := S2.alloc (.cells #[.int .i64 3, .int .i64 5, .int .i64 1, .int .i64 2, .slice none 0 0] 38)
  replace V2 := V2.alloc (.cells #[.int .i64 3, .int .i64 5, .int .i64 1, .int .i64 2, .slice none 0 0] 38)
  replace V3 := V3.alloc (.cells #[.int .i64 3, .int .i64 5, .int .i64 1, .int .i64 2, .slice none 0 0] 38)
  replace S4 := S4.alloc (.cells #[.int .i64 3, .int .i64 5, .int .i64 1, .int .i64 2, .slice none 0 0] 38)
  replace V4 := V4.alloc (.cells #[.int .i64 3, .int .i64 5, .int .i64 1, .int .i64 2, .slice none 0 0] 38)
  replace V5 := V5.alloc (.cells #[.int .i64 3, .int .i64 5, .int .i64 1, .int .i64 2, .slice none 0 0] 38)
  replace S6 := S6.alloc (.cells #[.int .i64 3, .int .i64 5, .int .i64 1, .int .i64 2, .slice none 0 0] 38)
  replace R7 := R7.alloc (.cells #[.int .i64 3, .int .i64 5, .int .i64 1, .int .i64 2, .slice none 0 0] 38)
  replace bb := bb.alloc bb.size (.cells #[.int .i64 3, .int .i64 5, .int .i64 1, .int .i64 2, .slice none 0 0] 38)
  have Bl := Blk.new w10 #[.int .i64 3, .int .i64 5, .int .i64 1, .int .i64 2, .slice none 0 0] 38
  go_wp2_with fail
  clear V1q0 V1q1 V1q2 V1q3 V1q4 V1r0 V1r1 V1r2 V1r3 V1r4
  generalize (w10.alloc (.cells #[.int .i64 3, .int .i64 5, .int .i64 1, .int .i64 2, .slice none 0 0] 38)) = wf at *
  have hR := rs_ext1 (x := ⟨3, 5, 1, 2, []⟩) rfl Bl (Sl.nil _)
  have hC := fAll_any [⟨3, 5, 1, 2, []⟩] A7 1 c7 _ 1 wf R7 hR
  refine hC.mono ?_
  clear hC
  rintro e w11 ⟨rfl, b11⟩
  replace V1 := V1.under b11
  replace S2 := S2.below b11
  replace V2 := V2.under b11
  replace V3 := V3.under b11
  replace S4 := S4.below b11
  replace V4 := V4.under b11
  replace V5 := V5.under b11
  replace S6 := S6.below b11
  replace R7 := R7.below b11
  replace Bl := Bl.under b11
  replace bb := bb.trans (b11.mono bb.size)
  clear hR Bl
  have e0 := str_of S6
  replace V1 := V1.alloc (.cells #[.int .u8 1, .int .u8 3, .int .u8 5, .int .u8 1, .int .u8 2, .int .u8 0, .int .u8 0, .int .u8 0] 5)
  replace S2 := S2.alloc (.cells #[.int .u8 1, .int .u8 3, .int .u8 5, .int .u8 1, .int .u8 2, .int .u8 0, .int .u8 0, .int .u8 0] 5)
  replace V2 := V2.alloc (.cells #[.int .u8 1, .int .u8 3, .int .u8 5, .int .u8 1, .int .u8 2, .int .u8 0, .int .u8 0, .int .u8 0] 5)
  replace V3 := V3.alloc (.cells #[.int .u8 1, .int .u8 3, .int .u8 5, .int .u8 1, .int .u8 2, .int .u8 0, .int .u8 0, .int .u8 0] 5)
  replace S4 := S4.alloc (.cells #[.int .u8 1, .int .u8 3, .int .u8 5, .int .u8 1, .int .u8 2, .int .u8 0, .int .u8 0, .int .u8 0] 5)
  replace V4 := V4.alloc (.cells #[.int .u8 1, .int .u8 3, .int .u8 5, .int .u8 1, .int .u8 2, .int .u8 0, .int .u8 0, .int .u8 0] 5)
  replace V5 := V5.alloc (.cells #[.int .u8 1, .int .u8 3, .int .u8 5, .int .u8 1, .int .u8 2, .int .u8 0, .int .u8 0, .int .u8 0] 5)
  replace S6 := S6.alloc (.cells #[.int .u8 1, .int .u8 3, .int .u8 5, .int .u8 1, .int .u8 2, .int .u8 0, .int .u8 0, .int .u8 0] 5)
  replace R7 := R7.alloc (.cells #[.int .u8 1, .int .u8 3, .int .u8 5, .int .u8 1, .int .u8 2, .int .u8 0, .int .u8 0, .int .u8 0] 5)
  replace bb := bb.alloc bb.size (.cells #[.int .u8 1, .int .u8 3, .int .u8 5, .int .u8 1, .int .u8 2, .int .u8 0, .int .u8 0, .int .u8 0] 5)
  have S9 := (show Sl (w11.alloc (.cells #[.int .u8 1, .int .u8 3, .int .u8 5, .int .u8 1, .int .u8 2, .int .u8 0, .int .u8 0, .int .u8 0] 5)) (some ⟨w11.heap.size, 0, none⟩) 8 8 (([1, 3, 5, 1, 2, 0, 0, 0] : List UInt8).map v8) from sl8 w11 [1, 3, 5, 1, 2, 0, 0, 0] (by decide))
  have e1 := str_of S9
  obtain ⟨V1q0, V1q1, V1q2, V1q3, V1q4, _⟩ := V1.five
  go_wp2_with fail
  generalize (w11.alloc (.cells #[.int .u8 1, .int .u8 3, .int .u8 5, .int .u8 1, .int .u8 2, .int .u8 0, .int .u8 0, .int .u8 0] 5)) = wg at *
  clear e0 e1 V1q0 V1q1 V1q2 V1q3 V1q4
  have hC := eCheck_any 3 5 1 2 none 0 0 wg (by decide)
  refine hC.mono ?_
  clear hC
  rintro e w12 ⟨rfl, b12⟩
  replace V1 := V1.under b12
  replace S2 := S2.below b12
  replace V2 := V2.under b12
  replace V3 := V3.under b12
  replace S4 := S4.below b12
  replace V4 := V4.under b12
  replace V5 := V5.under b12
  replace S6 := S6.below b12
  replace R7 := R7.below b12
  replace S9 := S9.below b12
  replace bb := bb.trans (b12.mono bb.size)
  rw [show xchk 3 5 1 2 ((0 : Nat) : Int) = true from aw_ck]
  go_wp2_with fail
  have hC := eCheck_any 0 0 0 0 none 0 0 w12 (by decide)
  refine hC.mono ?_
  clear hC
  rintro e w13 ⟨rfl, b13⟩
  replace V1 := V1.under b13
  replace S2 := S2.below b13
  replace V2 := V2.under b13
  replace V3 := V3.under b13
  replace S4 := S4.below b13
  replace V4 := V4.under b13
  replace V5 := V5.under b13
  replace S6 := S6.below b13
  replace R7 := R7.below b13
  replace S9 := S9.below b13
  replace bb := bb.trans (b13.mono bb.size)
  rw [show xchk 0 0 0 0 ((0 : Nat) : Int) = false from aw_ck0]
  obtain ⟨V1q0, V1q1, V1q2, V1q3, V1q4, V1r0, V1r1, V1r2, V1r3, V1r4⟩ := V1.five
  have V1l := V1.lt
  go_wp2_with fail
  clear V1q0 V1q1 V1q2 V1q3 V1q4 V1r0 V1r1 V1r2 V1r3 V1r4
  have hC := eBytes_any 3 5 1 2 none 0 0 [] w13 (by decide) (Sl.nil _)
  refine hC.mono ?_
  clear hC
  rintro e w14 ⟨A14, m14, c14, rfl, N14, b14⟩
  obtain rfl : 160 = m14 := by have := N14.1; rw [List.length_map, aw_by] at this; simpa using this
  clear N14
  replace bb := bb.trans (b14.mono bb.size)
  go_wp2
  go_ret
  exact ⟨rfl, bb⟩
end Go.Proofs.Ytepaojegcaapfaa
