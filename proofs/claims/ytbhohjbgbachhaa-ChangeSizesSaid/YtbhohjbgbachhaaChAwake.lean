/-
  The calls at every statement's head of stage 10 answer as the document says (written by gen_chawake.py).
-/
import Derived.Test.YtbhohjbgbachhaaCh5
import Derived.Test.YtbhohjbgbachhaaChS
namespace Go.Proofs.Ytbhohjbgbachhaa
open Go.RowKit Go.Wag
set_option linter.unusedVariables false
set_option maxRecDepth 20000
set_option linter.unusedSimpArgs false
/-- What Read answers, its numbers named. -/
def ChOk (w : World) (c : Ch) (er : Int) (e : Ending) (w' : World) : Prop :=
  ∃ (Ad : Option Addr) (md cd : Nat) (Al : Option Addr) (ml cl : Nat), e = .returned (.tuple #[.agg #[.int .i64 c.k, .int .i64 c.la, .int .i64 c.n, .int .i64 c.i, .slice Ad md cd, .slice Al ml cl], .int .i64 er]) ∧ Sl w' Ad md cd (c.d.map v8) ∧ Rs extE (fun _ => True) w' Al ml cl c.l ∧ Below w.heap.size w w'
theorem ChPost.at {w w' : World} {r : Option Ch} {e : Ending} (h : ChPost w r e w') : ChOk w (r.getD ch0) (errOf r 100) e w' := by
  obtain ⟨c, er, Ad, md, cd, Al, ml, cl, hc, he, h1, h2, h3, h4⟩ := h
  have hc := hc.out
  have he := he.out
  subst hc he
  exact ⟨Ad, md, cd, Al, ml, cl, h1, h2, h3, h4⟩
theorem ChPost.ok {P : Program} {f : FuncId} {args : Array Value} {w : World} {r : Option Ch} {c : Ch} (h : Calls P f args w (ChPost w r)) (hr : r = some c) : Calls P f args w (ChOk w c 0) := by
  subst hr
  exact h.mono fun e w' h => ChPost.at h
theorem ChPost.none {P : Program} {f : FuncId} {args : Array Value} {w : World} {r : Option Ch} (h : Calls P f args w (ChPost w r)) (hr : r = none) : Calls P f args w (ChOk w ch0 100) := by
  subst hr
  exact h.mono fun e w' h => ChPost.at h
theorem aw10_wr : cwr ⟨3, 3, 5, 0, [], []⟩ = some [3, 3, 5, 0, 0, 0, 0, 0, 0] := by rfl
theorem aw10_rd : crd [3, 3, 5, 0, 0, 0, 0, 0, 0] = some ⟨3, 3, 5, 0, [], []⟩ := crd_wr aw10_wr
theorem aw10_wr0 : cwr ⟨0, 0, 0, 0, [], []⟩ = none := cwr_no (by decide)
theorem aw10_rd0 : crd [] = none := crd_short (by decide)
theorem aw10_ck : cchk 3 3 5 0 ((0 : Nat) : Int) [] = true := by decide
theorem aw10_ck9 : cchk 9 0 0 0 ((0 : Nat) : Int) [] = false := by decide
theorem csame_self (a : Ch) : csame a a = true := csame_iff.2 rfl
set_option maxRecDepth 100000 in
set_option maxHeartbeats 4000000 in
theorem awake10_any (w : World) : Calls Try.prog 22 #[] w (AwakePost w) := by
  have bb := Below.refl w.heap.size w
  go_enter Try.func22, Try.ntmps22
  replace bb := bb.alloc bb.size (.cells #[.int .i64 3, .int .i64 3, .int .i64 5, .int .i64 0, .slice none 0 0, .slice none 0 0] 37)
  have V1 := Blk.new w #[.int .i64 3, .int .i64 3, .int .i64 5, .int .i64 0, .slice none 0 0, .slice none 0 0] 37
  obtain ⟨p0, p1, p2, p3, p4, p5, _⟩ := V1.six
  go_wp2_with fail
  generalize (w.alloc (.cells #[.int .i64 3, .int .i64 3, .int .i64 5, .int .i64 0, .slice none 0 0, .slice none 0 0] 37)) = wa at *
  clear p0 p1 p2 p3 p4 p5
  have hC := BytesErr.ok (chWrite_any (F := fun _ => True) 3 3 5 0 none 0 0 none 0 0 [] [] wa (Sl.nil _) (Rs.nil _ _ _) (by decide) (by intro x hx; cases hx)) aw10_wr
  refine hC.mono ?_
  clear hC
  rintro e w2 ⟨A2, m2, c2, rfl, S2, _, b2⟩
  replace V1 := V1.under b2
  replace bb := bb.trans (b2.mono bb.size)
  obtain rfl : 9 = m2 := by simpa using S2.len
  go_wp2_with fail
  have hC := ChPost.ok (chRead_any A2 9 c2 _ w2 S2 (by decide)) aw10_rd
  refine hC.mono ?_
  clear hC
  rintro e w3 ⟨Ad, md, cd, Al, ml, cl, rfl, Sd, Rl, b3⟩
  replace V1 := V1.under b3
  replace S2 := S2.below b3
  replace bb := bb.trans (b3.mono bb.size)
  obtain rfl : 0 = md := by simpa using Sd.len
  obtain rfl : 0 = ml := by simpa using Rl.len
  try dsimp only
  replace V1 := V1.alloc (.cells #[.int .i64 3, .int .i64 3, .int .i64 5, .int .i64 0, .slice Ad 0 cd, .slice Al 0 cl] 37)
  replace S2 := S2.alloc (.cells #[.int .i64 3, .int .i64 3, .int .i64 5, .int .i64 0, .slice Ad 0 cd, .slice Al 0 cl] 37)
  replace Sd := Sd.alloc (.cells #[.int .i64 3, .int .i64 3, .int .i64 5, .int .i64 0, .slice Ad 0 cd, .slice Al 0 cl] 37)
  replace Rl := Rl.alloc (.cells #[.int .i64 3, .int .i64 3, .int .i64 5, .int .i64 0, .slice Ad 0 cd, .slice Al 0 cl] 37)
  replace bb := bb.alloc bb.size (.cells #[.int .i64 3, .int .i64 3, .int .i64 5, .int .i64 0, .slice Ad 0 cd, .slice Al 0 cl] 37)
  have V2 := Blk.new w3 #[.int .i64 3, .int .i64 3, .int .i64 5, .int .i64 0, .slice Ad 0 cd, .slice Al 0 cl] 37
  go_wp2_with fail
  generalize (w3.alloc (.cells #[.int .i64 3, .int .i64 3, .int .i64 5, .int .i64 0, .slice Ad 0 cd, .slice Al 0 cl] 37)) = wb at *
  have hC := BytesErr.no (chWrite_any (F := fun _ => True) 0 0 0 0 none 0 0 none 0 0 [] [] wb (Sl.nil _) (Rs.nil _ _ _) (by decide) (by intro x hx; cases hx)) aw10_wr0
  refine hC.mono ?_
  clear hC
  rintro e w4 ⟨A4, m4, c4, rfl, _, _, b4⟩
  replace V1 := V1.under b4
  replace S2 := S2.below b4
  replace Sd := Sd.below b4
  replace Rl := Rl.below b4
  replace V2 := V2.under b4
  replace bb := bb.trans (b4.mono bb.size)
  go_wp2_with fail
  have hC := ChPost.none (chRead_any none 0 0 [] w4 (Sl.nil _) (by decide)) aw10_rd0
  refine hC.mono ?_
  clear hC
  rintro e w5 ⟨Ae, me, ce, Af, mf, cf, rfl, Se, Rf, b5⟩
  replace V1 := V1.under b5
  replace S2 := S2.below b5
  replace Sd := Sd.below b5
  replace Rl := Rl.below b5
  replace V2 := V2.under b5
  replace bb := bb.trans (b5.mono bb.size)
  try dsimp only [ch0]
  obtain ⟨V1q0, V1q1, V1q2, V1q3, V1q4, V1q5, V1r0, V1r1, V1r2, V1r3, V1r4, V1r5⟩ := V1.six
  have V1l := V1.lt
  obtain ⟨V2q0, V2q1, V2q2, V2q3, V2q4, V2q5, V2r0, V2r1, V2r2, V2r3, V2r4, V2r5⟩ := V2.six
  have V2l := V2.lt
  replace V1 := V1.alloc (.cells #[.int .i64 0, .int .i64 0, .int .i64 0, .int .i64 0, .slice Ae me ce, .slice Af mf cf] 37)
  replace S2 := S2.alloc (.cells #[.int .i64 0, .int .i64 0, .int .i64 0, .int .i64 0, .slice Ae me ce, .slice Af mf cf] 37)
  replace Sd := Sd.alloc (.cells #[.int .i64 0, .int .i64 0, .int .i64 0, .int .i64 0, .slice Ae me ce, .slice Af mf cf] 37)
  replace Rl := Rl.alloc (.cells #[.int .i64 0, .int .i64 0, .int .i64 0, .int .i64 0, .slice Ae me ce, .slice Af mf cf] 37)
  replace V2 := V2.alloc (.cells #[.int .i64 0, .int .i64 0, .int .i64 0, .int .i64 0, .slice Ae me ce, .slice Af mf cf] 37)
  replace bb := bb.alloc bb.size (.cells #[.int .i64 0, .int .i64 0, .int .i64 0, .int .i64 0, .slice Ae me ce, .slice Af mf cf] 37)
  have V3 := Blk.new w5 #[.int .i64 0, .int .i64 0, .int .i64 0, .int .i64 0, .slice Ae me ce, .slice Af mf cf] 37
  go_wp2_with fail
  clear V1q0 V1q1 V1q2 V1q3 V1q4 V1q5 V1r0 V1r1 V1r2 V1r3 V1r4 V1r5
  clear V2q0 V2q1 V2q2 V2q3 V2q4 V2q5 V2r0 V2r1 V2r2 V2r3 V2r4 V2r5
  generalize (w5.alloc (.cells #[.int .i64 0, .int .i64 0, .int .i64 0, .int .i64 0, .slice Ae me ce, .slice Af mf cf] 37)) = wc at *
  have hC := gSame_any (F := fun _ => True) 3 3 5 0 none 0 0 none 0 0 [] [] 3 3 5 0 Ad 0 cd Al 0 cl [] [] wc (Sl.nil _) Sd (Rs.nil _ _ _) Rl
  rw [csame_self] at hC
  refine hC.mono ?_
  clear hC
  rintro e w6 ⟨rfl, b6⟩
  replace V1 := V1.under b6
  replace S2 := S2.below b6
  replace Sd := Sd.below b6
  replace Rl := Rl.below b6
  replace V2 := V2.under b6
  replace V3 := V3.under b6
  replace bb := bb.trans (b6.mono bb.size)
  have e0 := str_of S2
  replace V1 := V1.alloc (.cells #[.int .u8 3, .int .u8 3, .int .u8 5, .int .u8 0, .int .u8 0, .int .u8 0, .int .u8 0, .int .u8 0, .int .u8 0] 5)
  replace S2 := S2.alloc (.cells #[.int .u8 3, .int .u8 3, .int .u8 5, .int .u8 0, .int .u8 0, .int .u8 0, .int .u8 0, .int .u8 0, .int .u8 0] 5)
  replace Sd := Sd.alloc (.cells #[.int .u8 3, .int .u8 3, .int .u8 5, .int .u8 0, .int .u8 0, .int .u8 0, .int .u8 0, .int .u8 0, .int .u8 0] 5)
  replace Rl := Rl.alloc (.cells #[.int .u8 3, .int .u8 3, .int .u8 5, .int .u8 0, .int .u8 0, .int .u8 0, .int .u8 0, .int .u8 0, .int .u8 0] 5)
  replace V2 := V2.alloc (.cells #[.int .u8 3, .int .u8 3, .int .u8 5, .int .u8 0, .int .u8 0, .int .u8 0, .int .u8 0, .int .u8 0, .int .u8 0] 5)
  replace V3 := V3.alloc (.cells #[.int .u8 3, .int .u8 3, .int .u8 5, .int .u8 0, .int .u8 0, .int .u8 0, .int .u8 0, .int .u8 0, .int .u8 0] 5)
  replace bb := bb.alloc bb.size (.cells #[.int .u8 3, .int .u8 3, .int .u8 5, .int .u8 0, .int .u8 0, .int .u8 0, .int .u8 0, .int .u8 0, .int .u8 0] 5)
  have S9 := (show Sl (w6.alloc (.cells #[.int .u8 3, .int .u8 3, .int .u8 5, .int .u8 0, .int .u8 0, .int .u8 0, .int .u8 0, .int .u8 0, .int .u8 0] 5)) (some ⟨w6.heap.size, 0, none⟩) 9 9 (([3, 3, 5, 0, 0, 0, 0, 0, 0] : List UInt8).map v8) from sl8 w6 [3, 3, 5, 0, 0, 0, 0, 0, 0] (by decide))
  have e1 := str_of S9
  obtain ⟨V1q0, V1q1, V1q2, V1q3, V1q4, V1q5, _⟩ := V1.six
  go_wp2_with fail
  generalize (w6.alloc (.cells #[.int .u8 3, .int .u8 3, .int .u8 5, .int .u8 0, .int .u8 0, .int .u8 0, .int .u8 0, .int .u8 0, .int .u8 0] 5)) = wg at *
  clear e0 e1 V1q0 V1q1 V1q2 V1q3 V1q4 V1q5
  have hC := chCheck_any (F := fun _ => True) 3 3 5 0 none 0 0 none 0 0 [] wg (Rs.nil _ _ _) (by decide) (by intro x hx; cases hx)
  refine hC.mono ?_
  clear hC
  rintro e w7 ⟨rfl, b7⟩
  replace V1 := V1.under b7
  replace S2 := S2.below b7
  replace Sd := Sd.below b7
  replace Rl := Rl.below b7
  replace V2 := V2.under b7
  replace V3 := V3.under b7
  replace S9 := S9.below b7
  replace bb := bb.trans (b7.mono bb.size)
  rw [aw10_ck]
  go_wp2_with fail
  have hC := chCheck_any (F := fun _ => True) 9 0 0 0 none 0 0 none 0 0 [] w7 (Rs.nil _ _ _) (by decide) (by intro x hx; cases hx)
  refine hC.mono ?_
  clear hC
  rintro e w8 ⟨rfl, b8⟩
  replace V1 := V1.under b8
  replace S2 := S2.below b8
  replace Sd := Sd.below b8
  replace Rl := Rl.below b8
  replace V2 := V2.under b8
  replace V3 := V3.under b8
  replace S9 := S9.below b8
  replace bb := bb.trans (b8.mono bb.size)
  rw [aw10_ck9]
  go_wp2
  go_ret
  exact ⟨rfl, bb⟩
end Go.Proofs.Ytbhohjbgbachhaa
