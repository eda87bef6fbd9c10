/-
  ExtmapHides: the walk (written by gen_emhides.py).
-/
import Derived.Test.YtefodkkkbjgbiaaEmAwake
import Derived.Test.YtefodkkkbjgbiaaEmMath2
import Derived.Test.YtefodkkkbjgbiaaArgs
namespace Go.Wag
open Go.RowKit
set_option linter.unusedVariables false
/-- A slice of two extents that was just laid. -/
theorem rs_ext2x {w : World} {g : Nat} {t : TypeId} {x y : Xp} {A : Option Addr} {n c : Nat} {A2 : Option Addr} {n2 c2 : Nat} (hn : x.l.length = n) (hn2 : y.l.length = n2) (h : Blk w g #[.int .i64 x.la, .int .i64 x.n, .int .i64 x.k, .int .i64 x.g, .slice A n c, .int .i64 y.la, .int .i64 y.n, .int .i64 y.k, .int .i64 y.g, .slice A2 n2 c2] t) (hs : Sl w A n c (x.l.map v8)) (hs2 : Sl w A2 n2 c2 (y.l.map v8)) : Rs extE (fun _ => True) w (some ⟨g, 0, none⟩) 2 2 [x, y] := by
  subst hn hn2
  refine ⟨rfl, Nat.le_refl _, by omega, fun _ => ⟨g, 0, rfl, trivial, h.lt, fun i z hi => ?_⟩⟩
  have hi2 : i < 2 := (List.getElem?_eq_some_iff.1 hi).1
  have e5 : extE.k = 5 := rfl
  match i, hi2, hi with
  | 0, _, hi =>
    cases hi
    refine ⟨_, ⟨A, c, rfl, hs, fun _ _ _ => trivial⟩, fun j v hj => ?_⟩
    have hjl : j < 5 := (List.getElem?_eq_some_iff.1 hj).1
    rw [h.cell, e5, show 0 + 0 * 5 + j = j by omega]
    match j, hjl, hj with
    | 0, _, hj => exact hj
    | 1, _, hj => exact hj
    | 2, _, hj => exact hj
    | 3, _, hj => exact hj
    | 4, _, hj => exact hj
  | 1, _, hi =>
    cases hi
    refine ⟨_, ⟨A2, c2, rfl, hs2, fun _ _ _ => trivial⟩, fun j v hj => ?_⟩
    have hjl : j < 5 := (List.getElem?_eq_some_iff.1 hj).1
    rw [h.cell, e5, show 0 + 1 * 5 + j = 5 + j by omega]
    match j, hjl, hj with
    | 0, _, hj => exact hj
    | 1, _, hj => exact hj
    | 2, _, hj => exact hj
    | 3, _, hj => exact hj
    | 4, _, hj => exact hj
theorem two_la {x y : Xp} (hx : x.la ≤ 9223372036854775807) (hy : y.la ≤ 9223372036854775807) : ∀ z ∈ [x, y], z.la ≤ 9223372036854775807 := fun z hz => by
  simp only [List.mem_cons, List.not_mem_nil, or_false] at hz
  rcases hz with rfl | rfl
  · exact hx
  · exact hy
theorem one_la {x : Xp} (hx : x.la ≤ 9223372036854775807) : ∀ z ∈ [x], z.la ≤ 9223372036854775807 := fun z hz => by rw [List.mem_singleton.1 hz]; exact hx
theorem lays_no {b : Int} {l t : List Xp} {x : Xp} (h : ¬ mfit b x = true) : mlays b l (x :: t) = none := by rw [mlays_cons, if_neg h]
theorem lays_yes {b : Int} {l t : List Xp} {x : Xp} (h : mfit b x = true) : mlays b l (x :: t) = mlays b (mput b l x) t := by rw [mlays_cons, if_pos h]
theorem lays_yx {b : Int} {l : List Xp} {x y : Xp} (h : ¬ mfit b x = true) : mlays b l [y, x] = none := by
  rw [mlays_cons]
  split
  · exact lays_no h
  · rfl
end Go.Wag
namespace Go.Proofs.Ytefodkkkbjgbiaa
open Go.RowKit Go.Wag
set_option linter.unusedVariables false
set_option linter.unusedSimpArgs false
theorem lay_at {P : Program} {f : FuncId} {args : Array Value} {w : World} {xs zs : List Xp} {r : Option (List Xp)} {er : Int} (h : Calls P f args w (LayPost w xs r)) (hz : r.getD xs = zs) (he : errOf r 81 = er) : Calls P f args w (LErr w zs er) := by
  subst hz he
  exact h
set_option maxRecDepth 100000 in
set_option maxHeartbeats 16000000 in
theorem hides_core {F : Nat → Prop} (b : Int) (xs : List Xp) (A : Option Addr) (n c : Nat) (x : Xp) (Ax : Option Addr) (mx cx : Nat) (y : Xp) (Ay : Option Addr) (my cy : Nat) (w : World) (h : Rs extE F w A n c xs) (hla : ∀ x ∈ xs, x.la ≤ 9223372036854775807) (hxl : x.l.length = mx) (hyl : y.l.length = my) (sx : Sl w Ax mx cx (x.l.map v8)) (sy : Sl w Ay my cy (y.l.map v8)) (hxla : x.la ≤ 9223372036854775807) (hyla : y.la ≤ 9223372036854775807) :
    Calls Try.prog 7 #[.int .i64 b, .slice A n c, .agg #[.int .i64 x.la, .int .i64 x.n, .int .i64 x.k, .int .i64 x.g, .slice Ax mx cx], .agg #[.int .i64 y.la, .int .i64 y.n, .int .i64 y.k, .int .i64 y.g, .slice Ay my cy]] w (AwakePost w) := by
  have bb := Below.refl w.heap.size w
  go_enter Try.func7, Try.ntmps7
  replace h := h.alloc (.cells #[.int .i64 x.la, .int .i64 x.n, .int .i64 x.k, .int .i64 x.g, .slice Ax mx cx] 35)
  replace sx := sx.alloc (.cells #[.int .i64 x.la, .int .i64 x.n, .int .i64 x.k, .int .i64 x.g, .slice Ax mx cx] 35)
  replace sy := sy.alloc (.cells #[.int .i64 x.la, .int .i64 x.n, .int .i64 x.k, .int .i64 x.g, .slice Ax mx cx] 35)
  replace bb := bb.alloc bb.size (.cells #[.int .i64 x.la, .int .i64 x.n, .int .i64 x.k, .int .i64 x.g, .slice Ax mx cx] 35)
  have Vx := Blk.new w #[.int .i64 x.la, .int .i64 x.n, .int .i64 x.k, .int .i64 x.g, .slice Ax mx cx] 35
  replace h := h.alloc (.cells #[.int .i64 y.la, .int .i64 y.n, .int .i64 y.k, .int .i64 y.g, .slice Ay my cy] 35)
  replace sx := sx.alloc (.cells #[.int .i64 y.la, .int .i64 y.n, .int .i64 y.k, .int .i64 y.g, .slice Ay my cy] 35)
  replace sy := sy.alloc (.cells #[.int .i64 y.la, .int .i64 y.n, .int .i64 y.k, .int .i64 y.g, .slice Ay my cy] 35)
  replace Vx := Vx.alloc (.cells #[.int .i64 y.la, .int .i64 y.n, .int .i64 y.k, .int .i64 y.g, .slice Ay my cy] 35)
  replace bb := bb.alloc bb.size (.cells #[.int .i64 y.la, .int .i64 y.n, .int .i64 y.k, .int .i64 y.g, .slice Ay my cy] 35)
  have Vy := Blk.new (w.alloc (.cells #[.int .i64 x.la, .int .i64 x.n, .int .i64 x.k, .int .i64 x.g, .slice Ax mx cx] 35)) #[.int .i64 y.la, .int .i64 y.n, .int .i64 y.k, .int .i64 y.g, .slice Ay my cy] 35
  simp only [World.size_alloc] at Vy
  go_wp2_with fail
  generalize ((w.alloc (.cells #[.int .i64 x.la, .int .i64 x.n, .int .i64 x.k, .int .i64 x.g, .slice Ax mx cx] 35)).alloc (.cells #[.int .i64 y.la, .int .i64 y.n, .int .i64 y.k, .int .i64 y.g, .slice Ay my cy] 35)) = wa at *
  have hC := awake8_any wa
  refine hC.mono ?_
  clear hC
  rintro e w1 ⟨rfl, b1⟩
  replace h := h.below b1
  replace sx := sx.below b1
  replace sy := sy.below b1
  replace Vx := Vx.under b1
  replace Vy := Vy.under b1
  replace bb := bb.trans (b1.mono bb.size)
  go_wp2_with fail
  refine (few_any xs A n c w1 h).mono ?_
  rintro e w2 ⟨fr, rfl, hfew, rfl⟩
  cases fr
  · go_wp2
    go_ret
    exact ⟨rfl, bb⟩
  have hn70 := (hfew rfl).1
  clear hfew
  have hn9 : n ≤ 1000000000 := by omega
  by_cases hx3 : (mx : Int) > 3000
  · skip
    obtain ⟨Vxq0, Vxq1, Vxq2, Vxq3, Vxq4, Vxr0, Vxr1, Vxr2, Vxr3, Vxr4⟩ := Vx.five
    have Vxl := Vx.lt
    go_wp2
    go_ret
    exact ⟨rfl, bb⟩
  by_cases hy3 : (my : Int) > 3000
  · skip
    obtain ⟨Vxq0, Vxq1, Vxq2, Vxq3, Vxq4, Vxr0, Vxr1, Vxr2, Vxr3, Vxr4⟩ := Vx.five
    have Vxl := Vx.lt
    obtain ⟨Vyq0, Vyq1, Vyq2, Vyq3, Vyq4, Vyr0, Vyr1, Vyr2, Vyr3, Vyr4⟩ := Vy.five
    have Vyl := Vy.lt
    go_wp2
    go_ret
    exact ⟨rfl, bb⟩
  replace hx3 : ¬ (3000 : Int) < (mx : Int) := hx3
  replace hy3 : ¬ (3000 : Int) < (my : Int) := hy3
  cases hm : mapB b xs
  · skip
    obtain ⟨Vxq0, Vxq1, Vxq2, Vxq3, Vxq4, Vxr0, Vxr1, Vxr2, Vxr3, Vxr4⟩ := Vx.five
    have Vxl := Vx.lt
    obtain ⟨Vyq0, Vyq1, Vyq2, Vyq3, Vyq4, Vyr0, Vyr1, Vyr2, Vyr3, Vyr4⟩ := Vy.five
    have Vyl := Vy.lt
    replace h := h.alloc (.cells #[.int .i64 x.la, .int .i64 x.n, .int .i64 x.k, .int .i64 x.g, .slice Ax mx cx] 35)
    replace sx := sx.alloc (.cells #[.int .i64 x.la, .int .i64 x.n, .int .i64 x.k, .int .i64 x.g, .slice Ax mx cx] 35)
    replace sy := sy.alloc (.cells #[.int .i64 x.la, .int .i64 x.n, .int .i64 x.k, .int .i64 x.g, .slice Ax mx cx] 35)
    replace Vx := Vx.alloc (.cells #[.int .i64 x.la, .int .i64 x.n, .int .i64 x.k, .int .i64 x.g, .slice Ax mx cx] 35)
    replace Vy := Vy.alloc (.cells #[.int .i64 x.la, .int .i64 x.n, .int .i64 x.k, .int .i64 x.g, .slice Ax mx cx] 35)
    replace bb := bb.alloc bb.size (.cells #[.int .i64 x.la, .int .i64 x.n, .int .i64 x.k, .int .i64 x.g, .slice Ax mx cx] 35)
    have B0 := Blk.new w1 #[.int .i64 x.la, .int .i64 x.n, .int .i64 x.k, .int .i64 x.g, .slice Ax mx cx] 35
    go_wp2_with fail
    clear Vxq0 Vxq1 Vxq2 Vxq3 Vxq4 Vxr0 Vxr1 Vxr2 Vxr3 Vxr4
    clear Vyq0 Vyq1 Vyq2 Vyq3 Vyq4 Vyr0 Vyr1 Vyr2 Vyr3 Vyr4
    generalize (w1.alloc (.cells #[.int .i64 x.la, .int .i64 x.n, .int .i64 x.k, .int .i64 x.g, .slice Ax mx cx] 35)) = wl0 at *
    have hC0 := mLay_any b xs A n c [x] _ 1 1 wl0 h hla hn9 (rs_ext1 hxl B0 sx) (one_la hxla)
    rw [hm, if_pos rfl] at hC0
    replace hC0 : Calls _ _ _ _ (LErr _ [] 80) := hC0
    have hC := hC0
    refine hC.mono ?_
    clear hC
    rintro e wm0 ⟨L0, k0, d0, hk0, rfl, R0, bl0⟩
    replace h := h.below bl0
    replace sx := sx.below bl0
    replace sy := sy.below bl0
    replace Vx := Vx.under bl0
    replace Vy := Vy.under bl0
    replace B0 := B0.under bl0
    replace bb := bb.trans (bl0.mono bb.size)
    clear hC0 B0
    obtain ⟨Vxq0, Vxq1, Vxq2, Vxq3, Vxq4, Vxr0, Vxr1, Vxr2, Vxr3, Vxr4⟩ := Vx.five
    have Vxl := Vx.lt
    replace h := h.alloc (.cells #[.int .i64 x.la, .int .i64 x.n, .int .i64 x.k, .int .i64 x.g, .slice Ax mx cx, .int .i64 x.la, .int .i64 x.n, .int .i64 x.k, .int .i64 x.g, .slice Ax mx cx] 35)
    replace sx := sx.alloc (.cells #[.int .i64 x.la, .int .i64 x.n, .int .i64 x.k, .int .i64 x.g, .slice Ax mx cx, .int .i64 x.la, .int .i64 x.n, .int .i64 x.k, .int .i64 x.g, .slice Ax mx cx] 35)
    replace sy := sy.alloc (.cells #[.int .i64 x.la, .int .i64 x.n, .int .i64 x.k, .int .i64 x.g, .slice Ax mx cx, .int .i64 x.la, .int .i64 x.n, .int .i64 x.k, .int .i64 x.g, .slice Ax mx cx] 35)
    replace Vx := Vx.alloc (.cells #[.int .i64 x.la, .int .i64 x.n, .int .i64 x.k, .int .i64 x.g, .slice Ax mx cx, .int .i64 x.la, .int .i64 x.n, .int .i64 x.k, .int .i64 x.g, .slice Ax mx cx] 35)
    replace Vy := Vy.alloc (.cells #[.int .i64 x.la, .int .i64 x.n, .int .i64 x.k, .int .i64 x.g, .slice Ax mx cx, .int .i64 x.la, .int .i64 x.n, .int .i64 x.k, .int .i64 x.g, .slice Ax mx cx] 35)
    replace R0 := R0.alloc (.cells #[.int .i64 x.la, .int .i64 x.n, .int .i64 x.k, .int .i64 x.g, .slice Ax mx cx, .int .i64 x.la, .int .i64 x.n, .int .i64 x.k, .int .i64 x.g, .slice Ax mx cx] 35)
    replace bb := bb.alloc bb.size (.cells #[.int .i64 x.la, .int .i64 x.n, .int .i64 x.k, .int .i64 x.g, .slice Ax mx cx, .int .i64 x.la, .int .i64 x.n, .int .i64 x.k, .int .i64 x.g, .slice Ax mx cx] 35)
    have B1 := Blk.new wm0 #[.int .i64 x.la, .int .i64 x.n, .int .i64 x.k, .int .i64 x.g, .slice Ax mx cx, .int .i64 x.la, .int .i64 x.n, .int .i64 x.k, .int .i64 x.g, .slice Ax mx cx] 35
    go_wp2_with fail
    clear Vxq0 Vxq1 Vxq2 Vxq3 Vxq4 Vxr0 Vxr1 Vxr2 Vxr3 Vxr4
    generalize (wm0.alloc (.cells #[.int .i64 x.la, .int .i64 x.n, .int .i64 x.k, .int .i64 x.g, .slice Ax mx cx, .int .i64 x.la, .int .i64 x.n, .int .i64 x.k, .int .i64 x.g, .slice Ax mx cx] 35)) = wl1 at *
    have hC0 := mLay_any b xs A n c [x, x] _ 2 2 wl1 h hla hn9 (rs_ext2x hxl hxl B1 sx sx) (two_la hxla hxla)
    rw [hm, if_pos rfl] at hC0
    replace hC0 : Calls _ _ _ _ (LErr _ [] 80) := hC0
    have hC := hC0
    refine hC.mono ?_
    clear hC
    rintro e wm1 ⟨L1, k1, d1, hk1, rfl, R1, bl1⟩
    replace h := h.below bl1
    replace sx := sx.below bl1
    replace sy := sy.below bl1
    replace Vx := Vx.under bl1
    replace Vy := Vy.under bl1
    replace R0 := R0.below bl1
    replace B1 := B1.under bl1
    replace bb := bb.trans (bl1.mono bb.size)
    clear hC0 B1
    obtain ⟨Vxq0, Vxq1, Vxq2, Vxq3, Vxq4, Vxr0, Vxr1, Vxr2, Vxr3, Vxr4⟩ := Vx.five
    have Vxl := Vx.lt
    obtain ⟨Vyq0, Vyq1, Vyq2, Vyq3, Vyq4, Vyr0, Vyr1, Vyr2, Vyr3, Vyr4⟩ := Vy.five
    have Vyl := Vy.lt
    replace h := h.alloc (.cells #[.int .i64 x.la, .int .i64 x.n, .int .i64 x.k, .int .i64 x.g, .slice Ax mx cx, .int .i64 y.la, .int .i64 y.n, .int .i64 y.k, .int .i64 y.g, .slice Ay my cy] 35)
    replace sx := sx.alloc (.cells #[.int .i64 x.la, .int .i64 x.n, .int .i64 x.k, .int .i64 x.g, .slice Ax mx cx, .int .i64 y.la, .int .i64 y.n, .int .i64 y.k, .int .i64 y.g, .slice Ay my cy] 35)
    replace sy := sy.alloc (.cells #[.int .i64 x.la, .int .i64 x.n, .int .i64 x.k, .int .i64 x.g, .slice Ax mx cx, .int .i64 y.la, .int .i64 y.n, .int .i64 y.k, .int .i64 y.g, .slice Ay my cy] 35)
    replace Vx := Vx.alloc (.cells #[.int .i64 x.la, .int .i64 x.n, .int .i64 x.k, .int .i64 x.g, .slice Ax mx cx, .int .i64 y.la, .int .i64 y.n, .int .i64 y.k, .int .i64 y.g, .slice Ay my cy] 35)
    replace Vy := Vy.alloc (.cells #[.int .i64 x.la, .int .i64 x.n, .int .i64 x.k, .int .i64 x.g, .slice Ax mx cx, .int .i64 y.la, .int .i64 y.n, .int .i64 y.k, .int .i64 y.g, .slice Ay my cy] 35)
    replace R0 := R0.alloc (.cells #[.int .i64 x.la, .int .i64 x.n, .int .i64 x.k, .int .i64 x.g, .slice Ax mx cx, .int .i64 y.la, .int .i64 y.n, .int .i64 y.k, .int .i64 y.g, .slice Ay my cy] 35)
    replace R1 := R1.alloc (.cells #[.int .i64 x.la, .int .i64 x.n, .int .i64 x.k, .int .i64 x.g, .slice Ax mx cx, .int .i64 y.la, .int .i64 y.n, .int .i64 y.k, .int .i64 y.g, .slice Ay my cy] 35)
    replace bb := bb.alloc bb.size (.cells #[.int .i64 x.la, .int .i64 x.n, .int .i64 x.k, .int .i64 x.g, .slice Ax mx cx, .int .i64 y.la, .int .i64 y.n, .int .i64 y.k, .int .i64 y.g, .slice Ay my cy] 35)
    have B2 := Blk.new wm1 #[.int .i64 x.la, .int .i64 x.n, .int .i64 x.k, .int .i64 x.g, .slice Ax mx cx, .int .i64 y.la, .int .i64 y.n, .int .i64 y.k, .int .i64 y.g, .slice Ay my cy] 35
    go_wp2_with fail
    clear Vxq0 Vxq1 Vxq2 Vxq3 Vxq4 Vxr0 Vxr1 Vxr2 Vxr3 Vxr4
    clear Vyq0 Vyq1 Vyq2 Vyq3 Vyq4 Vyr0 Vyr1 Vyr2 Vyr3 Vyr4
    generalize (wm1.alloc (.cells #[.int .i64 x.la, .int .i64 x.n, .int .i64 x.k, .int .i64 x.g, .slice Ax mx cx, .int .i64 y.la, .int .i64 y.n, .int .i64 y.k, .int .i64 y.g, .slice Ay my cy] 35)) = wl2 at *
    have hC0 := mLay_any b xs A n c [x, y] _ 2 2 wl2 h hla hn9 (rs_ext2x hxl hyl B2 sx sy) (two_la hxla hyla)
    rw [hm, if_pos rfl] at hC0
    replace hC0 : Calls _ _ _ _ (LErr _ [] 80) := hC0
    have hC := hC0
    refine hC.mono ?_
    clear hC
    rintro e wm2 ⟨L2, k2, d2, hk2, rfl, R2, bl2⟩
    replace h := h.below bl2
    replace sx := sx.below bl2
    replace sy := sy.below bl2
    replace Vx := Vx.under bl2
    replace Vy := Vy.under bl2
    replace R0 := R0.below bl2
    replace R1 := R1.below bl2
    replace B2 := B2.under bl2
    replace bb := bb.trans (bl2.mono bb.size)
    clear hC0 B2
    obtain ⟨Vxq0, Vxq1, Vxq2, Vxq3, Vxq4, Vxr0, Vxr1, Vxr2, Vxr3, Vxr4⟩ := Vx.five
    have Vxl := Vx.lt
    obtain ⟨Vyq0, Vyq1, Vyq2, Vyq3, Vyq4, Vyr0, Vyr1, Vyr2, Vyr3, Vyr4⟩ := Vy.five
    have Vyl := Vy.lt
    replace h := h.alloc (.cells #[.int .i64 y.la, .int .i64 y.n, .int .i64 y.k, .int .i64 y.g, .slice Ay my cy, .int .i64 x.la, .int .i64 x.n, .int .i64 x.k, .int .i64 x.g, .slice Ax mx cx] 35)
    replace sx := sx.alloc (.cells #[.int .i64 y.la, .int .i64 y.n, .int .i64 y.k, .int .i64 y.g, .slice Ay my cy, .int .i64 x.la, .int .i64 x.n, .int .i64 x.k, .int .i64 x.g, .slice Ax mx cx] 35)
    replace sy := sy.alloc (.cells #[.int .i64 y.la, .int .i64 y.n, .int .i64 y.k, .int .i64 y.g, .slice Ay my cy, .int .i64 x.la, .int .i64 x.n, .int .i64 x.k, .int .i64 x.g, .slice Ax mx cx] 35)
    replace Vx := Vx.alloc (.cells #[.int .i64 y.la, .int .i64 y.n, .int .i64 y.k, .int .i64 y.g, .slice Ay my cy, .int .i64 x.la, .int .i64 x.n, .int .i64 x.k, .int .i64 x.g, .slice Ax mx cx] 35)
    replace Vy := Vy.alloc (.cells #[.int .i64 y.la, .int .i64 y.n, .int .i64 y.k, .int .i64 y.g, .slice Ay my cy, .int .i64 x.la, .int .i64 x.n, .int .i64 x.k, .int .i64 x.g, .slice Ax mx cx] 35)
    replace R0 := R0.alloc (.cells #[.int .i64 y.la, .int .i64 y.n, .int .i64 y.k, .int .i64 y.g, .slice Ay my cy, .int .i64 x.la, .int .i64 x.n, .int .i64 x.k, .int .i64 x.g, .slice Ax mx cx] 35)
    replace R1 := R1.alloc (.cells #[.int .i64 y.la, .int .i64 y.n, .int .i64 y.k, .int .i64 y.g, .slice Ay my cy, .int .i64 x.la, .int .i64 x.n, .int .i64 x.k, .int .i64 x.g, .slice Ax mx cx] 35)
    replace R2 := R2.alloc (.cells #[.int .i64 y.la, .int .i64 y.n, .int .i64 y.k, .int .i64 y.g, .slice Ay my cy, .int .i64 x.la, .int .i64 x.n, .int .i64 x.k, .int .i64 x.g, .slice Ax mx cx] 35)
    replace bb := bb.alloc bb.size (.cells #[.int .i64 y.la, .int .i64 y.n, .int .i64 y.k, .int .i64 y.g, .slice Ay my cy, .int .i64 x.la, .int .i64 x.n, .int .i64 x.k, .int .i64 x.g, .slice Ax mx cx] 35)
    have B3 := Blk.new wm2 #[.int .i64 y.la, .int .i64 y.n, .int .i64 y.k, .int .i64 y.g, .slice Ay my cy, .int .i64 x.la, .int .i64 x.n, .int .i64 x.k, .int .i64 x.g, .slice Ax mx cx] 35
    go_wp2_with fail
    clear Vxq0 Vxq1 Vxq2 Vxq3 Vxq4 Vxr0 Vxr1 Vxr2 Vxr3 Vxr4
    clear Vyq0 Vyq1 Vyq2 Vyq3 Vyq4 Vyr0 Vyr1 Vyr2 Vyr3 Vyr4
    generalize (wm2.alloc (.cells #[.int .i64 y.la, .int .i64 y.n, .int .i64 y.k, .int .i64 y.g, .slice Ay my cy, .int .i64 x.la, .int .i64 x.n, .int .i64 x.k, .int .i64 x.g, .slice Ax mx cx] 35)) = wl3 at *
    have hC0 := mLay_any b xs A n c [y, x] _ 2 2 wl3 h hla hn9 (rs_ext2x hyl hxl B3 sy sx) (two_la hyla hxla)
    rw [hm, if_pos rfl] at hC0
    replace hC0 : Calls _ _ _ _ (LErr _ [] 80) := hC0
    have hC := hC0
    refine hC.mono ?_
    clear hC
    rintro e wm3 ⟨L3, k3, d3, hk3, rfl, R3, bl3⟩
    replace h := h.below bl3
    replace sx := sx.below bl3
    replace sy := sy.below bl3
    replace Vx := Vx.under bl3
    replace Vy := Vy.under bl3
    replace R0 := R0.below bl3
    replace R1 := R1.below bl3
    replace R2 := R2.below bl3
    replace B3 := B3.under bl3
    replace bb := bb.trans (bl3.mono bb.size)
    clear hC0 B3
    go_wp2
    go_ret
    exact ⟨rfl, bb⟩
  by_cases hfx : mfit b x = true
  rotate_left 1
  · skip
    obtain ⟨Vxq0, Vxq1, Vxq2, Vxq3, Vxq4, Vxr0, Vxr1, Vxr2, Vxr3, Vxr4⟩ := Vx.five
    have Vxl := Vx.lt
    obtain ⟨Vyq0, Vyq1, Vyq2, Vyq3, Vyq4, Vyr0, Vyr1, Vyr2, Vyr3, Vyr4⟩ := Vy.five
    have Vyl := Vy.lt
    replace h := h.alloc (.cells #[.int .i64 x.la, .int .i64 x.n, .int .i64 x.k, .int .i64 x.g, .slice Ax mx cx] 35)
    replace sx := sx.alloc (.cells #[.int .i64 x.la, .int .i64 x.n, .int .i64 x.k, .int .i64 x.g, .slice Ax mx cx] 35)
    replace sy := sy.alloc (.cells #[.int .i64 x.la, .int .i64 x.n, .int .i64 x.k, .int .i64 x.g, .slice Ax mx cx] 35)
    replace Vx := Vx.alloc (.cells #[.int .i64 x.la, .int .i64 x.n, .int .i64 x.k, .int .i64 x.g, .slice Ax mx cx] 35)
    replace Vy := Vy.alloc (.cells #[.int .i64 x.la, .int .i64 x.n, .int .i64 x.k, .int .i64 x.g, .slice Ax mx cx] 35)
    replace bb := bb.alloc bb.size (.cells #[.int .i64 x.la, .int .i64 x.n, .int .i64 x.k, .int .i64 x.g, .slice Ax mx cx] 35)
    have B0 := Blk.new w1 #[.int .i64 x.la, .int .i64 x.n, .int .i64 x.k, .int .i64 x.g, .slice Ax mx cx] 35
    go_wp2_with fail
    clear Vxq0 Vxq1 Vxq2 Vxq3 Vxq4 Vxr0 Vxr1 Vxr2 Vxr3 Vxr4
    clear Vyq0 Vyq1 Vyq2 Vyq3 Vyq4 Vyr0 Vyr1 Vyr2 Vyr3 Vyr4
    generalize (w1.alloc (.cells #[.int .i64 x.la, .int .i64 x.n, .int .i64 x.k, .int .i64 x.g, .slice Ax mx cx] 35)) = wl0 at *
    have hC0 := mLay_any b xs A n c [x] _ 1 1 wl0 h hla hn9 (rs_ext1 hxl B0 sx) (one_la hxla)
    rw [hm, if_neg (by decide)] at hC0
    replace hC0 : Calls _ _ _ _ (LErr _ xs 81) := lay_at hC0 (by rw [lays_no hfx]; rfl) (by rw [lays_no hfx]; rfl)
    have hC := hC0
    refine hC.mono ?_
    clear hC
    rintro e wm0 ⟨L0, k0, d0, hk0, rfl, R0, bl0⟩
    replace h := h.below bl0
    replace sx := sx.below bl0
    replace sy := sy.below bl0
    replace Vx := Vx.under bl0
    replace Vy := Vy.under bl0
    replace B0 := B0.under bl0
    replace bb := bb.trans (bl0.mono bb.size)
    clear hC0 B0
    obtain ⟨Vxq0, Vxq1, Vxq2, Vxq3, Vxq4, Vxr0, Vxr1, Vxr2, Vxr3, Vxr4⟩ := Vx.five
    have Vxl := Vx.lt
    replace h := h.alloc (.cells #[.int .i64 x.la, .int .i64 x.n, .int .i64 x.k, .int .i64 x.g, .slice Ax mx cx, .int .i64 x.la, .int .i64 x.n, .int .i64 x.k, .int .i64 x.g, .slice Ax mx cx] 35)
    replace sx := sx.alloc (.cells #[.int .i64 x.la, .int .i64 x.n, .int .i64 x.k, .int .i64 x.g, .slice Ax mx cx, .int .i64 x.la, .int .i64 x.n, .int .i64 x.k, .int .i64 x.g, .slice Ax mx cx] 35)
    replace sy := sy.alloc (.cells #[.int .i64 x.la, .int .i64 x.n, .int .i64 x.k, .int .i64 x.g, .slice Ax mx cx, .int .i64 x.la, .int .i64 x.n, .int .i64 x.k, .int .i64 x.g, .slice Ax mx cx] 35)
    replace Vx := Vx.alloc (.cells #[.int .i64 x.la, .int .i64 x.n, .int .i64 x.k, .int .i64 x.g, .slice Ax mx cx, .int .i64 x.la, .int .i64 x.n, .int .i64 x.k, .int .i64 x.g, .slice Ax mx cx] 35)
    replace Vy := Vy.alloc (.cells #[.int .i64 x.la, .int .i64 x.n, .int .i64 x.k, .int .i64 x.g, .slice Ax mx cx, .int .i64 x.la, .int .i64 x.n, .int .i64 x.k, .int .i64 x.g, .slice Ax mx cx] 35)
    replace R0 := R0.alloc (.cells #[.int .i64 x.la, .int .i64 x.n, .int .i64 x.k, .int .i64 x.g, .slice Ax mx cx, .int .i64 x.la, .int .i64 x.n, .int .i64 x.k, .int .i64 x.g, .slice Ax mx cx] 35)
    replace bb := bb.alloc bb.size (.cells #[.int .i64 x.la, .int .i64 x.n, .int .i64 x.k, .int .i64 x.g, .slice Ax mx cx, .int .i64 x.la, .int .i64 x.n, .int .i64 x.k, .int .i64 x.g, .slice Ax mx cx] 35)
    have B1 := Blk.new wm0 #[.int .i64 x.la, .int .i64 x.n, .int .i64 x.k, .int .i64 x.g, .slice Ax mx cx, .int .i64 x.la, .int .i64 x.n, .int .i64 x.k, .int .i64 x.g, .slice Ax mx cx] 35
    go_wp2_with fail
    clear Vxq0 Vxq1 Vxq2 Vxq3 Vxq4 Vxr0 Vxr1 Vxr2 Vxr3 Vxr4
    generalize (wm0.alloc (.cells #[.int .i64 x.la, .int .i64 x.n, .int .i64 x.k, .int .i64 x.g, .slice Ax mx cx, .int .i64 x.la, .int .i64 x.n, .int .i64 x.k, .int .i64 x.g, .slice Ax mx cx] 35)) = wl1 at *
    have hC0 := mLay_any b xs A n c [x, x] _ 2 2 wl1 h hla hn9 (rs_ext2x hxl hxl B1 sx sx) (two_la hxla hxla)
    rw [hm, if_neg (by decide)] at hC0
    replace hC0 : Calls _ _ _ _ (LErr _ xs 81) := lay_at hC0 (by rw [lays_no hfx]; rfl) (by rw [lays_no hfx]; rfl)
    have hC := hC0
    refine hC.mono ?_
    clear hC
    rintro e wm1 ⟨L1, k1, d1, hk1, rfl, R1, bl1⟩
    replace h := h.below bl1
    replace sx := sx.below bl1
    replace sy := sy.below bl1
    replace Vx := Vx.under bl1
    replace Vy := Vy.under bl1
    replace R0 := R0.below bl1
    replace B1 := B1.under bl1
    replace bb := bb.trans (bl1.mono bb.size)
    clear hC0 B1
    obtain ⟨Vxq0, Vxq1, Vxq2, Vxq3, Vxq4, Vxr0, Vxr1, Vxr2, Vxr3, Vxr4⟩ := Vx.five
    have Vxl := Vx.lt
    obtain ⟨Vyq0, Vyq1, Vyq2, Vyq3, Vyq4, Vyr0, Vyr1, Vyr2, Vyr3, Vyr4⟩ := Vy.five
    have Vyl := Vy.lt
    replace h := h.alloc (.cells #[.int .i64 x.la, .int .i64 x.n, .int .i64 x.k, .int .i64 x.g, .slice Ax mx cx, .int .i64 y.la, .int .i64 y.n, .int .i64 y.k, .int .i64 y.g, .slice Ay my cy] 35)
    replace sx := sx.alloc (.cells #[.int .i64 x.la, .int .i64 x.n, .int .i64 x.k, .int .i64 x.g, .slice Ax mx cx, .int .i64 y.la, .int .i64 y.n, .int .i64 y.k, .int .i64 y.g, .slice Ay my cy] 35)
    replace sy := sy.alloc (.cells #[.int .i64 x.la, .int .i64 x.n, .int .i64 x.k, .int .i64 x.g, .slice Ax mx cx, .int .i64 y.la, .int .i64 y.n, .int .i64 y.k, .int .i64 y.g, .slice Ay my cy] 35)
    replace Vx := Vx.alloc (.cells #[.int .i64 x.la, .int .i64 x.n, .int .i64 x.k, .int .i64 x.g, .slice Ax mx cx, .int .i64 y.la, .int .i64 y.n, .int .i64 y.k, .int .i64 y.g, .slice Ay my cy] 35)
    replace Vy := Vy.alloc (.cells #[.int .i64 x.la, .int .i64 x.n, .int .i64 x.k, .int .i64 x.g, .slice Ax mx cx, .int .i64 y.la, .int .i64 y.n, .int .i64 y.k, .int .i64 y.g, .slice Ay my cy] 35)
    replace R0 := R0.alloc (.cells #[.int .i64 x.la, .int .i64 x.n, .int .i64 x.k, .int .i64 x.g, .slice Ax mx cx, .int .i64 y.la, .int .i64 y.n, .int .i64 y.k, .int .i64 y.g, .slice Ay my cy] 35)
    replace R1 := R1.alloc (.cells #[.int .i64 x.la, .int .i64 x.n, .int .i64 x.k, .int .i64 x.g, .slice Ax mx cx, .int .i64 y.la, .int .i64 y.n, .int .i64 y.k, .int .i64 y.g, .slice Ay my cy] 35)
    replace bb := bb.alloc bb.size (.cells #[.int .i64 x.la, .int .i64 x.n, .int .i64 x.k, .int .i64 x.g, .slice Ax mx cx, .int .i64 y.la, .int .i64 y.n, .int .i64 y.k, .int .i64 y.g, .slice Ay my cy] 35)
    have B2 := Blk.new wm1 #[.int .i64 x.la, .int .i64 x.n, .int .i64 x.k, .int .i64 x.g, .slice Ax mx cx, .int .i64 y.la, .int .i64 y.n, .int .i64 y.k, .int .i64 y.g, .slice Ay my cy] 35
    go_wp2_with fail
    clear Vxq0 Vxq1 Vxq2 Vxq3 Vxq4 Vxr0 Vxr1 Vxr2 Vxr3 Vxr4
    clear Vyq0 Vyq1 Vyq2 Vyq3 Vyq4 Vyr0 Vyr1 Vyr2 Vyr3 Vyr4
    generalize (wm1.alloc (.cells #[.int .i64 x.la, .int .i64 x.n, .int .i64 x.k, .int .i64 x.g, .slice Ax mx cx, .int .i64 y.la, .int .i64 y.n, .int .i64 y.k, .int .i64 y.g, .slice Ay my cy] 35)) = wl2 at *
    have hC0 := mLay_any b xs A n c [x, y] _ 2 2 wl2 h hla hn9 (rs_ext2x hxl hyl B2 sx sy) (two_la hxla hyla)
    rw [hm, if_neg (by decide)] at hC0
    replace hC0 : Calls _ _ _ _ (LErr _ xs 81) := lay_at hC0 (by rw [lays_no hfx]; rfl) (by rw [lays_no hfx]; rfl)
    have hC := hC0
    refine hC.mono ?_
    clear hC
    rintro e wm2 ⟨L2, k2, d2, hk2, rfl, R2, bl2⟩
    replace h := h.below bl2
    replace sx := sx.below bl2
    replace sy := sy.below bl2
    replace Vx := Vx.under bl2
    replace Vy := Vy.under bl2
    replace R0 := R0.below bl2
    replace R1 := R1.below bl2
    replace B2 := B2.under bl2
    replace bb := bb.trans (bl2.mono bb.size)
    clear hC0 B2
    obtain ⟨Vxq0, Vxq1, Vxq2, Vxq3, Vxq4, Vxr0, Vxr1, Vxr2, Vxr3, Vxr4⟩ := Vx.five
    have Vxl := Vx.lt
    obtain ⟨Vyq0, Vyq1, Vyq2, Vyq3, Vyq4, Vyr0, Vyr1, Vyr2, Vyr3, Vyr4⟩ := Vy.five
    have Vyl := Vy.lt
    replace h := h.alloc (.cells #[.int .i64 y.la, .int .i64 y.n, .int .i64 y.k, .int .i64 y.g, .slice Ay my cy, .int .i64 x.la, .int .i64 x.n, .int .i64 x.k, .int .i64 x.g, .slice Ax mx cx] 35)
    replace sx := sx.alloc (.cells #[.int .i64 y.la, .int .i64 y.n, .int .i64 y.k, .int .i64 y.g, .slice Ay my cy, .int .i64 x.la, .int .i64 x.n, .int .i64 x.k, .int .i64 x.g, .slice Ax mx cx] 35)
    replace sy := sy.alloc (.cells #[.int .i64 y.la, .int .i64 y.n, .int .i64 y.k, .int .i64 y.g, .slice Ay my cy, .int .i64 x.la, .int .i64 x.n, .int .i64 x.k, .int .i64 x.g, .slice Ax mx cx] 35)
    replace Vx := Vx.alloc (.cells #[.int .i64 y.la, .int .i64 y.n, .int .i64 y.k, .int .i64 y.g, .slice Ay my cy, .int .i64 x.la, .int .i64 x.n, .int .i64 x.k, .int .i64 x.g, .slice Ax mx cx] 35)
    replace Vy := Vy.alloc (.cells #[.int .i64 y.la, .int .i64 y.n, .int .i64 y.k, .int .i64 y.g, .slice Ay my cy, .int .i64 x.la, .int .i64 x.n, .int .i64 x.k, .int .i64 x.g, .slice Ax mx cx] 35)
    replace R0 := R0.alloc (.cells #[.int .i64 y.la, .int .i64 y.n, .int .i64 y.k, .int .i64 y.g, .slice Ay my cy, .int .i64 x.la, .int .i64 x.n, .int .i64 x.k, .int .i64 x.g, .slice Ax mx cx] 35)
    replace R1 := R1.alloc (.cells #[.int .i64 y.la, .int .i64 y.n, .int .i64 y.k, .int .i64 y.g, .slice Ay my cy, .int .i64 x.la, .int .i64 x.n, .int .i64 x.k, .int .i64 x.g, .slice Ax mx cx] 35)
    replace R2 := R2.alloc (.cells #[.int .i64 y.la, .int .i64 y.n, .int .i64 y.k, .int .i64 y.g, .slice Ay my cy, .int .i64 x.la, .int .i64 x.n, .int .i64 x.k, .int .i64 x.g, .slice Ax mx cx] 35)
    replace bb := bb.alloc bb.size (.cells #[.int .i64 y.la, .int .i64 y.n, .int .i64 y.k, .int .i64 y.g, .slice Ay my cy, .int .i64 x.la, .int .i64 x.n, .int .i64 x.k, .int .i64 x.g, .slice Ax mx cx] 35)
    have B3 := Blk.new wm2 #[.int .i64 y.la, .int .i64 y.n, .int .i64 y.k, .int .i64 y.g, .slice Ay my cy, .int .i64 x.la, .int .i64 x.n, .int .i64 x.k, .int .i64 x.g, .slice Ax mx cx] 35
    go_wp2_with fail
    clear Vxq0 Vxq1 Vxq2 Vxq3 Vxq4 Vxr0 Vxr1 Vxr2 Vxr3 Vxr4
    clear Vyq0 Vyq1 Vyq2 Vyq3 Vyq4 Vyr0 Vyr1 Vyr2 Vyr3 Vyr4
    generalize (wm2.alloc (.cells #[.int .i64 y.la, .int .i64 y.n, .int .i64 y.k, .int .i64 y.g, .slice Ay my cy, .int .i64 x.la, .int .i64 x.n, .int .i64 x.k, .int .i64 x.g, .slice Ax mx cx] 35)) = wl3 at *
    have hC0 := mLay_any b xs A n c [y, x] _ 2 2 wl3 h hla hn9 (rs_ext2x hyl hxl B3 sy sx) (two_la hyla hxla)
    rw [hm, if_neg (by decide)] at hC0
    replace hC0 : Calls _ _ _ _ (LErr _ xs 81) := lay_at hC0 (by rw [lays_yx hfx]; rfl) (by rw [lays_yx hfx]; rfl)
    have hC := hC0
    refine hC.mono ?_
    clear hC
    rintro e wm3 ⟨L3, k3, d3, hk3, rfl, R3, bl3⟩
    replace h := h.below bl3
    replace sx := sx.below bl3
    replace sy := sy.below bl3
    replace Vx := Vx.under bl3
    replace Vy := Vy.under bl3
    replace R0 := R0.below bl3
    replace R1 := R1.below bl3
    replace R2 := R2.below bl3
    replace B3 := B3.under bl3
    replace bb := bb.trans (bl3.mono bb.size)
    clear hC0 B3
    go_wp2
    go_ret
    exact ⟨rfl, bb⟩
  by_cases hfy : mfit b y = true
  rotate_left 1
  · skip
    obtain ⟨Vxq0, Vxq1, Vxq2, Vxq3, Vxq4, Vxr0, Vxr1, Vxr2, Vxr3, Vxr4⟩ := Vx.five
    have Vxl := Vx.lt
    obtain ⟨Vyq0, Vyq1, Vyq2, Vyq3, Vyq4, Vyr0, Vyr1, Vyr2, Vyr3, Vyr4⟩ := Vy.five
    have Vyl := Vy.lt
    replace h := h.alloc (.cells #[.int .i64 x.la, .int .i64 x.n, .int .i64 x.k, .int .i64 x.g, .slice Ax mx cx] 35)
    replace sx := sx.alloc (.cells #[.int .i64 x.la, .int .i64 x.n, .int .i64 x.k, .int .i64 x.g, .slice Ax mx cx] 35)
    replace sy := sy.alloc (.cells #[.int .i64 x.la, .int .i64 x.n, .int .i64 x.k, .int .i64 x.g, .slice Ax mx cx] 35)
    replace Vx := Vx.alloc (.cells #[.int .i64 x.la, .int .i64 x.n, .int .i64 x.k, .int .i64 x.g, .slice Ax mx cx] 35)
    replace Vy := Vy.alloc (.cells #[.int .i64 x.la, .int .i64 x.n, .int .i64 x.k, .int .i64 x.g, .slice Ax mx cx] 35)
    replace bb := bb.alloc bb.size (.cells #[.int .i64 x.la, .int .i64 x.n, .int .i64 x.k, .int .i64 x.g, .slice Ax mx cx] 35)
    have B0 := Blk.new w1 #[.int .i64 x.la, .int .i64 x.n, .int .i64 x.k, .int .i64 x.g, .slice Ax mx cx] 35
    go_wp2_with fail
    clear Vxq0 Vxq1 Vxq2 Vxq3 Vxq4 Vxr0 Vxr1 Vxr2 Vxr3 Vxr4
    clear Vyq0 Vyq1 Vyq2 Vyq3 Vyq4 Vyr0 Vyr1 Vyr2 Vyr3 Vyr4
    generalize (w1.alloc (.cells #[.int .i64 x.la, .int .i64 x.n, .int .i64 x.k, .int .i64 x.g, .slice Ax mx cx] 35)) = wl0 at *
    have hC0 := mLay_any b xs A n c [x] _ 1 1 wl0 h hla hn9 (rs_ext1 hxl B0 sx) (one_la hxla)
    rw [hm, if_neg (by decide)] at hC0
    replace hC0 : Calls _ _ _ _ (LErr _ (mput b xs x) 0) := lay_at hC0 (by rw [lays_yes hfx]; rfl) (by rw [lays_yes hfx]; rfl)
    have hC := hC0
    refine hC.mono ?_
    clear hC
    rintro e wm0 ⟨L0, k0, d0, hk0, rfl, R0, bl0⟩
    replace h := h.below bl0
    replace sx := sx.below bl0
    replace sy := sy.below bl0
    replace Vx := Vx.under bl0
    replace Vy := Vy.under bl0
    replace B0 := B0.under bl0
    replace bb := bb.trans (bl0.mono bb.size)
    clear hC0 B0
    obtain ⟨Vxq0, Vxq1, Vxq2, Vxq3, Vxq4, Vxr0, Vxr1, Vxr2, Vxr3, Vxr4⟩ := Vx.five
    have Vxl := Vx.lt
    replace h := h.alloc (.cells #[.int .i64 x.la, .int .i64 x.n, .int .i64 x.k, .int .i64 x.g, .slice Ax mx cx, .int .i64 x.la, .int .i64 x.n, .int .i64 x.k, .int .i64 x.g, .slice Ax mx cx] 35)
    replace sx := sx.alloc (.cells #[.int .i64 x.la, .int .i64 x.n, .int .i64 x.k, .int .i64 x.g, .slice Ax mx cx, .int .i64 x.la, .int .i64 x.n, .int .i64 x.k, .int .i64 x.g, .slice Ax mx cx] 35)
    replace sy := sy.alloc (.cells #[.int .i64 x.la, .int .i64 x.n, .int .i64 x.k, .int .i64 x.g, .slice Ax mx cx, .int .i64 x.la, .int .i64 x.n, .int .i64 x.k, .int .i64 x.g, .slice Ax mx cx] 35)
    replace Vx := Vx.alloc (.cells #[.int .i64 x.la, .int .i64 x.n, .int .i64 x.k, .int .i64 x.g, .slice Ax mx cx, .int .i64 x.la, .int .i64 x.n, .int .i64 x.k, .int .i64 x.g, .slice Ax mx cx] 35)
    replace Vy := Vy.alloc (.cells #[.int .i64 x.la, .int .i64 x.n, .int .i64 x.k, .int .i64 x.g, .slice Ax mx cx, .int .i64 x.la, .int .i64 x.n, .int .i64 x.k, .int .i64 x.g, .slice Ax mx cx] 35)
    replace R0 := R0.alloc (.cells #[.int .i64 x.la, .int .i64 x.n, .int .i64 x.k, .int .i64 x.g, .slice Ax mx cx, .int .i64 x.la, .int .i64 x.n, .int .i64 x.k, .int .i64 x.g, .slice Ax mx cx] 35)
    replace bb := bb.alloc bb.size (.cells #[.int .i64 x.la, .int .i64 x.n, .int .i64 x.k, .int .i64 x.g, .slice Ax mx cx, .int .i64 x.la, .int .i64 x.n, .int .i64 x.k, .int .i64 x.g, .slice Ax mx cx] 35)
    have B1 := Blk.new wm0 #[.int .i64 x.la, .int .i64 x.n, .int .i64 x.k, .int .i64 x.g, .slice Ax mx cx, .int .i64 x.la, .int .i64 x.n, .int .i64 x.k, .int .i64 x.g, .slice Ax mx cx] 35
    go_wp2_with fail
    clear Vxq0 Vxq1 Vxq2 Vxq3 Vxq4 Vxr0 Vxr1 Vxr2 Vxr3 Vxr4
    generalize (wm0.alloc (.cells #[.int .i64 x.la, .int .i64 x.n, .int .i64 x.k, .int .i64 x.g, .slice Ax mx cx, .int .i64 x.la, .int .i64 x.n, .int .i64 x.k, .int .i64 x.g, .slice Ax mx cx] 35)) = wl1 at *
    have hC0 := mLay_any b xs A n c [x, x] _ 2 2 wl1 h hla hn9 (rs_ext2x hxl hxl B1 sx sx) (two_la hxla hxla)
    rw [hm, if_neg (by decide)] at hC0
    replace hC0 : Calls _ _ _ _ (LErr _ (mput b xs x) 0) := lay_at hC0 (by rw [lays_yes hfx, lays_yes hfx, mput_twice hm hfx]; rfl) (by rw [lays_yes hfx, lays_yes hfx]; rfl)
    have hC := hC0
    refine hC.mono ?_
    clear hC
    rintro e wm1 ⟨L1, k1, d1, hk1, rfl, R1, bl1⟩
    replace h := h.below bl1
    replace sx := sx.below bl1
    replace sy := sy.below bl1
    replace Vx := Vx.under bl1
    replace Vy := Vy.under bl1
    replace R0 := R0.below bl1
    replace B1 := B1.under bl1
    replace bb := bb.trans (bl1.mono bb.size)
    clear hC0 B1
    obtain ⟨Vxq0, Vxq1, Vxq2, Vxq3, Vxq4, Vxr0, Vxr1, Vxr2, Vxr3, Vxr4⟩ := Vx.five
    have Vxl := Vx.lt
    obtain ⟨Vyq0, Vyq1, Vyq2, Vyq3, Vyq4, Vyr0, Vyr1, Vyr2, Vyr3, Vyr4⟩ := Vy.five
    have Vyl := Vy.lt
    replace h := h.alloc (.cells #[.int .i64 x.la, .int .i64 x.n, .int .i64 x.k, .int .i64 x.g, .slice Ax mx cx, .int .i64 y.la, .int .i64 y.n, .int .i64 y.k, .int .i64 y.g, .slice Ay my cy] 35)
    replace sx := sx.alloc (.cells #[.int .i64 x.la, .int .i64 x.n, .int .i64 x.k, .int .i64 x.g, .slice Ax mx cx, .int .i64 y.la, .int .i64 y.n, .int .i64 y.k, .int .i64 y.g, .slice Ay my cy] 35)
    replace sy := sy.alloc (.cells #[.int .i64 x.la, .int .i64 x.n, .int .i64 x.k, .int .i64 x.g, .slice Ax mx cx, .int .i64 y.la, .int .i64 y.n, .int .i64 y.k, .int .i64 y.g, .slice Ay my cy] 35)
    replace Vx := Vx.alloc (.cells #[.int .i64 x.la, .int .i64 x.n, .int .i64 x.k, .int .i64 x.g, .slice Ax mx cx, .int .i64 y.la, .int .i64 y.n, .int .i64 y.k, .int .i64 y.g, .slice Ay my cy] 35)
    replace Vy := Vy.alloc (.cells #[.int .i64 x.la, .int .i64 x.n, .int .i64 x.k, .int .i64 x.g, .slice Ax mx cx, .int .i64 y.la, .int .i64 y.n, .int .i64 y.k, .int .i64 y.g, .slice Ay my cy] 35)
    replace R0 := R0.alloc (.cells #[.int .i64 x.la, .int .i64 x.n, .int .i64 x.k, .int .i64 x.g, .slice Ax mx cx, .int .i64 y.la, .int .i64 y.n, .int .i64 y.k, .int .i64 y.g, .slice Ay my cy] 35)
    replace R1 := R1.alloc (.cells #[.int .i64 x.la, .int .i64 x.n, .int .i64 x.k, .int .i64 x.g, .slice Ax mx cx, .int .i64 y.la, .int .i64 y.n, .int .i64 y.k, .int .i64 y.g, .slice Ay my cy] 35)
    replace bb := bb.alloc bb.size (.cells #[.int .i64 x.la, .int .i64 x.n, .int .i64 x.k, .int .i64 x.g, .slice Ax mx cx, .int .i64 y.la, .int .i64 y.n, .int .i64 y.k, .int .i64 y.g, .slice Ay my cy] 35)
    have B2 := Blk.new wm1 #[.int .i64 x.la, .int .i64 x.n, .int .i64 x.k, .int .i64 x.g, .slice Ax mx cx, .int .i64 y.la, .int .i64 y.n, .int .i64 y.k, .int .i64 y.g, .slice Ay my cy] 35
    go_wp2_with fail
    clear Vxq0 Vxq1 Vxq2 Vxq3 Vxq4 Vxr0 Vxr1 Vxr2 Vxr3 Vxr4
    clear Vyq0 Vyq1 Vyq2 Vyq3 Vyq4 Vyr0 Vyr1 Vyr2 Vyr3 Vyr4
    generalize (wm1.alloc (.cells #[.int .i64 x.la, .int .i64 x.n, .int .i64 x.k, .int .i64 x.g, .slice Ax mx cx, .int .i64 y.la, .int .i64 y.n, .int .i64 y.k, .int .i64 y.g, .slice Ay my cy] 35)) = wl2 at *
    have hC0 := mLay_any b xs A n c [x, y] _ 2 2 wl2 h hla hn9 (rs_ext2x hxl hyl B2 sx sy) (two_la hxla hyla)
    rw [hm, if_neg (by decide)] at hC0
    replace hC0 : Calls _ _ _ _ (LErr _ xs 81) := lay_at hC0 (by rw [lays_yes hfx, lays_no hfy]; rfl) (by rw [lays_yes hfx, lays_no hfy]; rfl)
    have hC := hC0
    refine hC.mono ?_
    clear hC
    rintro e wm2 ⟨L2, k2, d2, hk2, rfl, R2, bl2⟩
    replace h := h.below bl2
    replace sx := sx.below bl2
    replace sy := sy.below bl2
    replace Vx := Vx.under bl2
    replace Vy := Vy.under bl2
    replace R0 := R0.below bl2
    replace R1 := R1.below bl2
    replace B2 := B2.under bl2
    replace bb := bb.trans (bl2.mono bb.size)
    clear hC0 B2
    obtain ⟨Vxq0, Vxq1, Vxq2, Vxq3, Vxq4, Vxr0, Vxr1, Vxr2, Vxr3, Vxr4⟩ := Vx.five
    have Vxl := Vx.lt
    obtain ⟨Vyq0, Vyq1, Vyq2, Vyq3, Vyq4, Vyr0, Vyr1, Vyr2, Vyr3, Vyr4⟩ := Vy.five
    have Vyl := Vy.lt
    replace h := h.alloc (.cells #[.int .i64 y.la, .int .i64 y.n, .int .i64 y.k, .int .i64 y.g, .slice Ay my cy, .int .i64 x.la, .int .i64 x.n, .int .i64 x.k, .int .i64 x.g, .slice Ax mx cx] 35)
    replace sx := sx.alloc (.cells #[.int .i64 y.la, .int .i64 y.n, .int .i64 y.k, .int .i64 y.g, .slice Ay my cy, .int .i64 x.la, .int .i64 x.n, .int .i64 x.k, .int .i64 x.g, .slice Ax mx cx] 35)
    replace sy := sy.alloc (.cells #[.int .i64 y.la, .int .i64 y.n, .int .i64 y.k, .int .i64 y.g, .slice Ay my cy, .int .i64 x.la, .int .i64 x.n, .int .i64 x.k, .int .i64 x.g, .slice Ax mx cx] 35)
    replace Vx := Vx.alloc (.cells #[.int .i64 y.la, .int .i64 y.n, .int .i64 y.k, .int .i64 y.g, .slice Ay my cy, .int .i64 x.la, .int .i64 x.n, .int .i64 x.k, .int .i64 x.g, .slice Ax mx cx] 35)
    replace Vy := Vy.alloc (.cells #[.int .i64 y.la, .int .i64 y.n, .int .i64 y.k, .int .i64 y.g, .slice Ay my cy, .int .i64 x.la, .int .i64 x.n, .int .i64 x.k, .int .i64 x.g, .slice Ax mx cx] 35)
    replace R0 := R0.alloc (.cells #[.int .i64 y.la, .int .i64 y.n, .int .i64 y.k, .int .i64 y.g, .slice Ay my cy, .int .i64 x.la, .int .i64 x.n, .int .i64 x.k, .int .i64 x.g, .slice Ax mx cx] 35)
    replace R1 := R1.alloc (.cells #[.int .i64 y.la, .int .i64 y.n, .int .i64 y.k, .int .i64 y.g, .slice Ay my cy, .int .i64 x.la, .int .i64 x.n, .int .i64 x.k, .int .i64 x.g, .slice Ax mx cx] 35)
    replace R2 := R2.alloc (.cells #[.int .i64 y.la, .int .i64 y.n, .int .i64 y.k, .int .i64 y.g, .slice Ay my cy, .int .i64 x.la, .int .i64 x.n, .int .i64 x.k, .int .i64 x.g, .slice Ax mx cx] 35)
    replace bb := bb.alloc bb.size (.cells #[.int .i64 y.la, .int .i64 y.n, .int .i64 y.k, .int .i64 y.g, .slice Ay my cy, .int .i64 x.la, .int .i64 x.n, .int .i64 x.k, .int .i64 x.g, .slice Ax mx cx] 35)
    have B3 := Blk.new wm2 #[.int .i64 y.la, .int .i64 y.n, .int .i64 y.k, .int .i64 y.g, .slice Ay my cy, .int .i64 x.la, .int .i64 x.n, .int .i64 x.k, .int .i64 x.g, .slice Ax mx cx] 35
    go_wp2_with fail
    clear Vxq0 Vxq1 Vxq2 Vxq3 Vxq4 Vxr0 Vxr1 Vxr2 Vxr3 Vxr4
    clear Vyq0 Vyq1 Vyq2 Vyq3 Vyq4 Vyr0 Vyr1 Vyr2 Vyr3 Vyr4
    generalize (wm2.alloc (.cells #[.int .i64 y.la, .int .i64 y.n, .int .i64 y.k, .int .i64 y.g, .slice Ay my cy, .int .i64 x.la, .int .i64 x.n, .int .i64 x.k, .int .i64 x.g, .slice Ax mx cx] 35)) = wl3 at *
    have hC0 := mLay_any b xs A n c [y, x] _ 2 2 wl3 h hla hn9 (rs_ext2x hyl hxl B3 sy sx) (two_la hyla hxla)
    rw [hm, if_neg (by decide)] at hC0
    replace hC0 : Calls _ _ _ _ (LErr _ xs 81) := lay_at hC0 (by rw [lays_no hfy]; rfl) (by rw [lays_no hfy]; rfl)
    have hC := hC0
    refine hC.mono ?_
    clear hC
    rintro e wm3 ⟨L3, k3, d3, hk3, rfl, R3, bl3⟩
    replace h := h.below bl3
    replace sx := sx.below bl3
    replace sy := sy.below bl3
    replace Vx := Vx.under bl3
    replace Vy := Vy.under bl3
    replace R0 := R0.below bl3
    replace R1 := R1.below bl3
    replace R2 := R2.below bl3
    replace B3 := B3.under bl3
    replace bb := bb.trans (bl3.mono bb.size)
    clear hC0 B3
    go_wp2
    go_ret
    exact ⟨rfl, bb⟩
  obtain ⟨hxo, hxb⟩ := (mfit_iff _ _).1 hfx
  obtain ⟨hyo, hyb⟩ := (mfit_iff _ _).1 hfy
  have ax := Xp.all hxo
  have ay := Xp.all hyo
  obtain ⟨_, hb64, _, _⟩ := (mapB_iff _ _).1 hm
  have s1 : wrap64 (x.la + x.n) = x.la + x.n := by unfold wrap64; omega
  have s2 : wrap64 (y.la + y.n) = y.la + y.n := by unfold wrap64; omega
  have hyr : 0 ≤ y.la ∧ 1 ≤ y.n ∧ y.n ≤ b - y.la := by omega
  have hap := fun ha => mput_apart (x := x) (y := y) hm hfx hfy ha
  have hm2 := mput_map (mput_map hm hfx) hfy
  have hpp := mparts_put (mput_map hm hfx) hfy
  have htw := mput_twice hm hfx
  have hcl := mapB_len hm2
  have hcla := map_la hm2
  have g1 : errOf (mlays b xs [x]) 81 = 0 ∧ (mlays b xs [x]).getD xs = mput b xs x := by rw [lays_yes hfx]; exact ⟨rfl, rfl⟩
  have g2 : errOf (mlays b xs [x, x]) 81 = 0 ∧ (mlays b xs [x, x]).getD xs = mput b xs x := by rw [lays_yes hfx, lays_yes hfx, htw]; exact ⟨rfl, rfl⟩
  have g3 : errOf (mlays b xs [x, y]) 81 = 0 ∧ (mlays b xs [x, y]).getD xs = mput b (mput b xs x) y := by rw [lays_yes hfx, lays_yes hfy]; exact ⟨rfl, rfl⟩
  have g4 : errOf (mlays b xs [y, x]) 81 = 0 ∧ (mlays b xs [y, x]).getD xs = mput b (mput b xs y) x := by rw [lays_yes hfy, lays_yes hfx]; exact ⟨rfl, rfl⟩
  obtain ⟨la, hlea⟩ : ∃ l, mput b xs x = l := ⟨_, rfl⟩
  obtain ⟨lc, hlec⟩ : ∃ l, mput b (mput b xs x) y = l := ⟨_, rfl⟩
  obtain ⟨ld, hled⟩ : ∃ l, mput b (mput b xs y) x = l := ⟨_, rfl⟩
  rw [hlec, hled] at hap
  obtain ⟨ex, hex⟩ : ∃ e, x.la + x.n = e := ⟨_, rfl⟩
  obtain ⟨ey, hey⟩ : ∃ e, y.la + y.n = e := ⟨_, rfl⟩
  rw [hex, hey] at hap
  replace s1 := s1.trans hex
  replace s2 := s2.trans hey
  replace hex := Lib.hid hex
  replace hey := Lib.hid hey
  replace hyr := Lib.hid hyr
  replace hb64 := Lib.hid hb64
  replace hcl := Lib.hid hcl
  rw [hlec] at hm2 hpp hcl hcla
  rw [hlea] at g1 g2
  rw [hlec] at g3
  rw [hled] at g4
  clear hlea hlec hled htw ax ay hxo hyo hxb hyb hfx hfy
  replace hm2 := Lib.hid hm2
  by_cases ap1 : ex ≤ y.la
  rotate_left 1
  by_cases ap2 : ey ≤ x.la
  rotate_left 1
  · skip
    clear hap
    obtain ⟨Vxq0, Vxq1, Vxq2, Vxq3, Vxq4, Vxr0, Vxr1, Vxr2, Vxr3, Vxr4⟩ := Vx.five
    have Vxl := Vx.lt
    obtain ⟨Vyq0, Vyq1, Vyq2, Vyq3, Vyq4, Vyr0, Vyr1, Vyr2, Vyr3, Vyr4⟩ := Vy.five
    have Vyl := Vy.lt
    replace h := h.alloc (.cells #[.int .i64 x.la, .int .i64 x.n, .int .i64 x.k, .int .i64 x.g, .slice Ax mx cx] 35)
    replace sx := sx.alloc (.cells #[.int .i64 x.la, .int .i64 x.n, .int .i64 x.k, .int .i64 x.g, .slice Ax mx cx] 35)
    replace sy := sy.alloc (.cells #[.int .i64 x.la, .int .i64 x.n, .int .i64 x.k, .int .i64 x.g, .slice Ax mx cx] 35)
    replace Vx := Vx.alloc (.cells #[.int .i64 x.la, .int .i64 x.n, .int .i64 x.k, .int .i64 x.g, .slice Ax mx cx] 35)
    replace Vy := Vy.alloc (.cells #[.int .i64 x.la, .int .i64 x.n, .int .i64 x.k, .int .i64 x.g, .slice Ax mx cx] 35)
    replace bb := bb.alloc bb.size (.cells #[.int .i64 x.la, .int .i64 x.n, .int .i64 x.k, .int .i64 x.g, .slice Ax mx cx] 35)
    have B0 := Blk.new w1 #[.int .i64 x.la, .int .i64 x.n, .int .i64 x.k, .int .i64 x.g, .slice Ax mx cx] 35
    go_wp2_with fail
    clear Vxq0 Vxq1 Vxq2 Vxq3 Vxq4 Vxr0 Vxr1 Vxr2 Vxr3 Vxr4
    clear Vyq0 Vyq1 Vyq2 Vyq3 Vyq4 Vyr0 Vyr1 Vyr2 Vyr3 Vyr4
    generalize (w1.alloc (.cells #[.int .i64 x.la, .int .i64 x.n, .int .i64 x.k, .int .i64 x.g, .slice Ax mx cx] 35)) = wl0 at *
    have hC0 := mLay_any b xs A n c [x] _ 1 1 wl0 h hla hn9 (rs_ext1 hxl B0 sx) (one_la hxla)
    rw [hm, if_neg (by decide)] at hC0
    replace hC0 : Calls _ _ _ _ (LErr _ la 0) := lay_at hC0 g1.2 g1.1
    have hC := hC0
    refine hC.mono ?_
    clear hC
    rintro e wm0 ⟨L0, k0, d0, hk0, rfl, R0, bl0⟩
    replace h := h.below bl0
    replace sx := sx.below bl0
    replace sy := sy.below bl0
    replace Vx := Vx.under bl0
    replace Vy := Vy.under bl0
    replace B0 := B0.under bl0
    replace bb := bb.trans (bl0.mono bb.size)
    clear hC0 B0
    obtain ⟨Vxq0, Vxq1, Vxq2, Vxq3, Vxq4, Vxr0, Vxr1, Vxr2, Vxr3, Vxr4⟩ := Vx.five
    have Vxl := Vx.lt
    replace h := h.alloc (.cells #[.int .i64 x.la, .int .i64 x.n, .int .i64 x.k, .int .i64 x.g, .slice Ax mx cx, .int .i64 x.la, .int .i64 x.n, .int .i64 x.k, .int .i64 x.g, .slice Ax mx cx] 35)
    replace sx := sx.alloc (.cells #[.int .i64 x.la, .int .i64 x.n, .int .i64 x.k, .int .i64 x.g, .slice Ax mx cx, .int .i64 x.la, .int .i64 x.n, .int .i64 x.k, .int .i64 x.g, .slice Ax mx cx] 35)
    replace sy := sy.alloc (.cells #[.int .i64 x.la, .int .i64 x.n, .int .i64 x.k, .int .i64 x.g, .slice Ax mx cx, .int .i64 x.la, .int .i64 x.n, .int .i64 x.k, .int .i64 x.g, .slice Ax mx cx] 35)
    replace Vx := Vx.alloc (.cells #[.int .i64 x.la, .int .i64 x.n, .int .i64 x.k, .int .i64 x.g, .slice Ax mx cx, .int .i64 x.la, .int .i64 x.n, .int .i64 x.k, .int .i64 x.g, .slice Ax mx cx] 35)
    replace Vy := Vy.alloc (.cells #[.int .i64 x.la, .int .i64 x.n, .int .i64 x.k, .int .i64 x.g, .slice Ax mx cx, .int .i64 x.la, .int .i64 x.n, .int .i64 x.k, .int .i64 x.g, .slice Ax mx cx] 35)
    replace R0 := R0.alloc (.cells #[.int .i64 x.la, .int .i64 x.n, .int .i64 x.k, .int .i64 x.g, .slice Ax mx cx, .int .i64 x.la, .int .i64 x.n, .int .i64 x.k, .int .i64 x.g, .slice Ax mx cx] 35)
    replace bb := bb.alloc bb.size (.cells #[.int .i64 x.la, .int .i64 x.n, .int .i64 x.k, .int .i64 x.g, .slice Ax mx cx, .int .i64 x.la, .int .i64 x.n, .int .i64 x.k, .int .i64 x.g, .slice Ax mx cx] 35)
    have B1 := Blk.new wm0 #[.int .i64 x.la, .int .i64 x.n, .int .i64 x.k, .int .i64 x.g, .slice Ax mx cx, .int .i64 x.la, .int .i64 x.n, .int .i64 x.k, .int .i64 x.g, .slice Ax mx cx] 35
    go_wp2_with fail
    clear Vxq0 Vxq1 Vxq2 Vxq3 Vxq4 Vxr0 Vxr1 Vxr2 Vxr3 Vxr4
    generalize (wm0.alloc (.cells #[.int .i64 x.la, .int .i64 x.n, .int .i64 x.k, .int .i64 x.g, .slice Ax mx cx, .int .i64 x.la, .int .i64 x.n, .int .i64 x.k, .int .i64 x.g, .slice Ax mx cx] 35)) = wl1 at *
    have hC0 := mLay_any b xs A n c [x, x] _ 2 2 wl1 h hla hn9 (rs_ext2x hxl hxl B1 sx sx) (two_la hxla hxla)
    rw [hm, if_neg (by decide)] at hC0
    replace hC0 : Calls _ _ _ _ (LErr _ la 0) := lay_at hC0 g2.2 g2.1
    have hC := hC0
    refine hC.mono ?_
    clear hC
    rintro e wm1 ⟨L1, k1, d1, hk1, rfl, R1, bl1⟩
    replace h := h.below bl1
    replace sx := sx.below bl1
    replace sy := sy.below bl1
    replace Vx := Vx.under bl1
    replace Vy := Vy.under bl1
    replace R0 := R0.below bl1
    replace B1 := B1.under bl1
    replace bb := bb.trans (bl1.mono bb.size)
    clear hC0 B1
    obtain ⟨Vxq0, Vxq1, Vxq2, Vxq3, Vxq4, Vxr0, Vxr1, Vxr2, Vxr3, Vxr4⟩ := Vx.five
    have Vxl := Vx.lt
    obtain ⟨Vyq0, Vyq1, Vyq2, Vyq3, Vyq4, Vyr0, Vyr1, Vyr2, Vyr3, Vyr4⟩ := Vy.five
    have Vyl := Vy.lt
    replace h := h.alloc (.cells #[.int .i64 x.la, .int .i64 x.n, .int .i64 x.k, .int .i64 x.g, .slice Ax mx cx, .int .i64 y.la, .int .i64 y.n, .int .i64 y.k, .int .i64 y.g, .slice Ay my cy] 35)
    replace sx := sx.alloc (.cells #[.int .i64 x.la, .int .i64 x.n, .int .i64 x.k, .int .i64 x.g, .slice Ax mx cx, .int .i64 y.la, .int .i64 y.n, .int .i64 y.k, .int .i64 y.g, .slice Ay my cy] 35)
    replace sy := sy.alloc (.cells #[.int .i64 x.la, .int .i64 x.n, .int .i64 x.k, .int .i64 x.g, .slice Ax mx cx, .int .i64 y.la, .int .i64 y.n, .int .i64 y.k, .int .i64 y.g, .slice Ay my cy] 35)
    replace Vx := Vx.alloc (.cells #[.int .i64 x.la, .int .i64 x.n, .int .i64 x.k, .int .i64 x.g, .slice Ax mx cx, .int .i64 y.la, .int .i64 y.n, .int .i64 y.k, .int .i64 y.g, .slice Ay my cy] 35)
    replace Vy := Vy.alloc (.cells #[.int .i64 x.la, .int .i64 x.n, .int .i64 x.k, .int .i64 x.g, .slice Ax mx cx, .int .i64 y.la, .int .i64 y.n, .int .i64 y.k, .int .i64 y.g, .slice Ay my cy] 35)
    replace R0 := R0.alloc (.cells #[.int .i64 x.la, .int .i64 x.n, .int .i64 x.k, .int .i64 x.g, .slice Ax mx cx, .int .i64 y.la, .int .i64 y.n, .int .i64 y.k, .int .i64 y.g, .slice Ay my cy] 35)
    replace R1 := R1.alloc (.cells #[.int .i64 x.la, .int .i64 x.n, .int .i64 x.k, .int .i64 x.g, .slice Ax mx cx, .int .i64 y.la, .int .i64 y.n, .int .i64 y.k, .int .i64 y.g, .slice Ay my cy] 35)
    replace bb := bb.alloc bb.size (.cells #[.int .i64 x.la, .int .i64 x.n, .int .i64 x.k, .int .i64 x.g, .slice Ax mx cx, .int .i64 y.la, .int .i64 y.n, .int .i64 y.k, .int .i64 y.g, .slice Ay my cy] 35)
    have B2 := Blk.new wm1 #[.int .i64 x.la, .int .i64 x.n, .int .i64 x.k, .int .i64 x.g, .slice Ax mx cx, .int .i64 y.la, .int .i64 y.n, .int .i64 y.k, .int .i64 y.g, .slice Ay my cy] 35
    go_wp2_with fail
    clear Vxq0 Vxq1 Vxq2 Vxq3 Vxq4 Vxr0 Vxr1 Vxr2 Vxr3 Vxr4
    clear Vyq0 Vyq1 Vyq2 Vyq3 Vyq4 Vyr0 Vyr1 Vyr2 Vyr3 Vyr4
    generalize (wm1.alloc (.cells #[.int .i64 x.la, .int .i64 x.n, .int .i64 x.k, .int .i64 x.g, .slice Ax mx cx, .int .i64 y.la, .int .i64 y.n, .int .i64 y.k, .int .i64 y.g, .slice Ay my cy] 35)) = wl2 at *
    have hC0 := mLay_any b xs A n c [x, y] _ 2 2 wl2 h hla hn9 (rs_ext2x hxl hyl B2 sx sy) (two_la hxla hyla)
    rw [hm, if_neg (by decide)] at hC0
    replace hC0 : Calls _ _ _ _ (LErr _ lc 0) := lay_at hC0 g3.2 g3.1
    have hC := hC0
    refine hC.mono ?_
    clear hC
    rintro e wm2 ⟨L2, k2, d2, hk2, rfl, R2, bl2⟩
    replace h := h.below bl2
    replace sx := sx.below bl2
    replace sy := sy.below bl2
    replace Vx := Vx.under bl2
    replace Vy := Vy.under bl2
    replace R0 := R0.below bl2
    replace R1 := R1.below bl2
    replace B2 := B2.under bl2
    replace bb := bb.trans (bl2.mono bb.size)
    clear hC0 B2
    obtain ⟨Vxq0, Vxq1, Vxq2, Vxq3, Vxq4, Vxr0, Vxr1, Vxr2, Vxr3, Vxr4⟩ := Vx.five
    have Vxl := Vx.lt
    obtain ⟨Vyq0, Vyq1, Vyq2, Vyq3, Vyq4, Vyr0, Vyr1, Vyr2, Vyr3, Vyr4⟩ := Vy.five
    have Vyl := Vy.lt
    replace h := h.alloc (.cells #[.int .i64 y.la, .int .i64 y.n, .int .i64 y.k, .int .i64 y.g, .slice Ay my cy, .int .i64 x.la, .int .i64 x.n, .int .i64 x.k, .int .i64 x.g, .slice Ax mx cx] 35)
    replace sx := sx.alloc (.cells #[.int .i64 y.la, .int .i64 y.n, .int .i64 y.k, .int .i64 y.g, .slice Ay my cy, .int .i64 x.la, .int .i64 x.n, .int .i64 x.k, .int .i64 x.g, .slice Ax mx cx] 35)
    replace sy := sy.alloc (.cells #[.int .i64 y.la, .int .i64 y.n, .int .i64 y.k, .int .i64 y.g, .slice Ay my cy, .int .i64 x.la, .int .i64 x.n, .int .i64 x.k, .int .i64 x.g, .slice Ax mx cx] 35)
    replace Vx := Vx.alloc (.cells #[.int .i64 y.la, .int .i64 y.n, .int .i64 y.k, .int .i64 y.g, .slice Ay my cy, .int .i64 x.la, .int .i64 x.n, .int .i64 x.k, .int .i64 x.g, .slice Ax mx cx] 35)
    replace Vy := Vy.alloc (.cells #[.int .i64 y.la, .int .i64 y.n, .int .i64 y.k, .int .i64 y.g, .slice Ay my cy, .int .i64 x.la, .int .i64 x.n, .int .i64 x.k, .int .i64 x.g, .slice Ax mx cx] 35)
    replace R0 := R0.alloc (.cells #[.int .i64 y.la, .int .i64 y.n, .int .i64 y.k, .int .i64 y.g, .slice Ay my cy, .int .i64 x.la, .int .i64 x.n, .int .i64 x.k, .int .i64 x.g, .slice Ax mx cx] 35)
    replace R1 := R1.alloc (.cells #[.int .i64 y.la, .int .i64 y.n, .int .i64 y.k, .int .i64 y.g, .slice Ay my cy, .int .i64 x.la, .int .i64 x.n, .int .i64 x.k, .int .i64 x.g, .slice Ax mx cx] 35)
    replace R2 := R2.alloc (.cells #[.int .i64 y.la, .int .i64 y.n, .int .i64 y.k, .int .i64 y.g, .slice Ay my cy, .int .i64 x.la, .int .i64 x.n, .int .i64 x.k, .int .i64 x.g, .slice Ax mx cx] 35)
    replace bb := bb.alloc bb.size (.cells #[.int .i64 y.la, .int .i64 y.n, .int .i64 y.k, .int .i64 y.g, .slice Ay my cy, .int .i64 x.la, .int .i64 x.n, .int .i64 x.k, .int .i64 x.g, .slice Ax mx cx] 35)
    have B3 := Blk.new wm2 #[.int .i64 y.la, .int .i64 y.n, .int .i64 y.k, .int .i64 y.g, .slice Ay my cy, .int .i64 x.la, .int .i64 x.n, .int .i64 x.k, .int .i64 x.g, .slice Ax mx cx] 35
    go_wp2_with fail
    clear Vxq0 Vxq1 Vxq2 Vxq3 Vxq4 Vxr0 Vxr1 Vxr2 Vxr3 Vxr4
    clear Vyq0 Vyq1 Vyq2 Vyq3 Vyq4 Vyr0 Vyr1 Vyr2 Vyr3 Vyr4
    generalize (wm2.alloc (.cells #[.int .i64 y.la, .int .i64 y.n, .int .i64 y.k, .int .i64 y.g, .slice Ay my cy, .int .i64 x.la, .int .i64 x.n, .int .i64 x.k, .int .i64 x.g, .slice Ax mx cx] 35)) = wl3 at *
    have hC0 := mLay_any b xs A n c [y, x] _ 2 2 wl3 h hla hn9 (rs_ext2x hyl hxl B3 sy sx) (two_la hyla hxla)
    rw [hm, if_neg (by decide)] at hC0
    replace hC0 : Calls _ _ _ _ (LErr _ ld 0) := lay_at hC0 g4.2 g4.1
    have hC := hC0
    refine hC.mono ?_
    clear hC
    rintro e wm3 ⟨L3, k3, d3, hk3, rfl, R3, bl3⟩
    replace h := h.below bl3
    replace sx := sx.below bl3
    replace sy := sy.below bl3
    replace Vx := Vx.under bl3
    replace Vy := Vy.under bl3
    replace R0 := R0.below bl3
    replace R1 := R1.below bl3
    replace R2 := R2.below bl3
    replace B3 := B3.under bl3
    replace bb := bb.trans (bl3.mono bb.size)
    clear hC0 B3
    obtain rfl : k0 = k1 := hk0.out.symm.trans hk1.out
    obtain ⟨Vxq0, Vxq1, Vxq2, Vxq3, Vxq4, Vxr0, Vxr1, Vxr2, Vxr3, Vxr4⟩ := Vx.five
    have Vxl := Vx.lt
    obtain ⟨Vyq0, Vyq1, Vyq2, Vyq3, Vyq4, Vyr0, Vyr1, Vyr2, Vyr3, Vyr4⟩ := Vy.five
    have Vyl := Vy.lt
    go_wp2_with fail
    clear Vxq0 Vxq1 Vxq2 Vxq3 Vxq4 Vxr0 Vxr1 Vxr2 Vxr3 Vxr4
    clear Vyq0 Vyq1 Vyq2 Vyq3 Vyq4 Vyr0 Vyr1 Vyr2 Vyr3 Vyr4
    have hC := fAll_any la L0 k0 d0 L1 d1 wm3 R0 R1
    refine hC.mono ?_
    clear hC
    rintro e wn1 ⟨rfl, c1⟩
    replace h := h.below c1
    replace sx := sx.below c1
    replace sy := sy.below c1
    replace Vx := Vx.under c1
    replace Vy := Vy.under c1
    replace R0 := R0.below c1
    replace R1 := R1.below c1
    replace R2 := R2.below c1
    replace R3 := R3.below c1
    replace bb := bb.trans (c1.mono bb.size)
    obtain ⟨Vyq0, Vyq1, Vyq2, Vyq3, Vyq4, Vyr0, Vyr1, Vyr2, Vyr3, Vyr4⟩ := Vy.five
    have Vyl := Vy.lt
    go_wp2_with fail
    clear Vyq0 Vyq1 Vyq2 Vyq3 Vyq4 Vyr0 Vyr1 Vyr2 Vyr3 Vyr4
    have hC1 := mRange_any b lc L2 k2 d2 y.la y.n wn1 hyla R2 hcla (by have := R2.len; have := hcl.out; have := hb64.out; omega)
    rw [hm2.out, if_neg (by decide), if_pos hyr.out, hpp] at hC1
    have hC := hC1
    refine hC.mono ?_
    clear hC
    rintro e wn3 ⟨L9, k9, d9, hk9, rfl, R9, c3⟩
    replace h := h.below c3
    replace sx := sx.below c3
    replace sy := sy.below c3
    replace Vx := Vx.under c3
    replace Vy := Vy.under c3
    replace R0 := R0.below c3
    replace R1 := R1.below c3
    replace R2 := R2.below c3
    replace R3 := R3.below c3
    replace bb := bb.trans (c3.mono bb.size)
    obtain rfl : 1 = k9 := hk9.out
    clear hC1
    obtain ⟨gb, o, z, Az, cz, rfl, _, hgz, hz, z0, z1, z2, z3, z4, hSz, _⟩ := R9.ext_at (show 0 < 1 by omega)
    obtain rfl : y = z := Option.some.inj hz
    rw [hyl] at z4 hSz
    simp only [Nat.zero_mul, Nat.add_zero] at z0 z1 z2 z3 z4
    go_wp2_with fail
    refine wp_region_held_drew (S := fun w' => Below wn3.heap.size wn3 w') (by kernel_rfl) (Below.refl _ _).drew (fun hHeld => ?_)
    try dsimp only at hHeld
    generalize wn3.drew = wd at *
    try simp only [Act.put, List.setIfInBounds_toArray, List.set_cons_zero, List.set_cons_succ]
    refine wpAnyH_take (i := 0) (v := ?_) (by simp only [List.getElem?_toArray, List.getElem?_cons_zero]; rfl) (by kernel_rfl) (by kernel_rfl) (by kernel_rfl) (by intro _ _ _ h; exact h) (Or.inl ⟨by rfl, ?_⟩) hHeld ?_
    rotate_left 1
    · intro wq hSw
      try dsimp only at hSw
      go_simp
      try (with_reducible rfl)
    try simp only [Act.put, List.setIfInBounds_toArray, List.set_cons_zero, List.set_cons_succ]
    refine wpAnyH_take (i := 1) (v := ?_) (by simp only [List.getElem?_toArray, List.getElem?_cons_succ, List.getElem?_cons_zero]; rfl) (by kernel_rfl) (by kernel_rfl) (by kernel_rfl) (by intro _ _ _ h; exact h) (Or.inl ⟨by rfl, ?_⟩) hHeld ?_
    rotate_left 1
    · intro wq hSw
      try dsimp only at hSw
      go_simp
      try (with_reducible rfl)
    try simp only [Act.put, List.setIfInBounds_toArray, List.set_cons_zero, List.set_cons_succ]
    refine wpAnyH_take (i := 2) (v := ?_) (by simp only [List.getElem?_toArray, List.getElem?_cons_succ, List.getElem?_cons_zero]; rfl) (by kernel_rfl) (by kernel_rfl) (by kernel_rfl) (by intro _ _ _ h; exact h) (Or.inl ⟨by rfl, ?_⟩) hHeld ?_
    rotate_left 1
    · intro wq hSw
      try dsimp only at hSw
      go_simp
      try (with_reducible rfl)
    try simp only [Act.put, List.setIfInBounds_toArray, List.set_cons_zero, List.set_cons_succ]
    refine wpAnyH_take (i := 3) (v := ?_) (by simp only [List.getElem?_toArray, List.getElem?_cons_succ, List.getElem?_cons_zero]; rfl) (by kernel_rfl) (by kernel_rfl) (by kernel_rfl) (by intro _ _ _ h; exact h) (Or.inl ⟨by rfl, ?_⟩) hHeld ?_
    rotate_left 1
    · intro wq hSw
      try dsimp only at hSw
      go_simp
      try (with_reducible rfl)
    try simp only [Act.put, List.setIfInBounds_toArray, List.set_cons_zero, List.set_cons_succ]
    refine wpAnyH_take (i := 4) (v := ?_) (by simp only [List.getElem?_toArray, List.getElem?_cons_succ, List.getElem?_cons_zero]; rfl) (by kernel_rfl) (by kernel_rfl) (by kernel_rfl) (by intro _ _ _ h; exact h) (Or.inl ⟨by rfl, ?_⟩) hHeld ?_
    rotate_left 1
    · intro wq hSw
      try dsimp only at hSw
      go_simp
      try (with_reducible rfl)
    try simp only [Act.put, List.setIfInBounds_toArray, List.set_cons_zero, List.set_cons_succ]
    refine wpAnyH_take (i := 5) (v := ?_) (by simp only [List.getElem?_toArray, List.getElem?_cons_succ, List.getElem?_cons_zero]; rfl) (by kernel_rfl) (by kernel_rfl) (by kernel_rfl) (by intro _ _ _ h; exact h) (Or.inl ⟨by rfl, ?_⟩) hHeld ?_
    rotate_left 1
    · intro wq hSw
      try dsimp only at hSw
      go_simp
      try (with_reducible rfl)
    try simp only [Act.put, List.setIfInBounds_toArray, List.set_cons_zero, List.set_cons_succ]
    refine wpAnyH_take (i := 6) (v := ?_) (by simp only [List.getElem?_toArray, List.getElem?_cons_succ, List.getElem?_cons_zero]; rfl) (by kernel_rfl) (by kernel_rfl) (by kernel_rfl) (by intro _ _ _ h; exact h) (Or.inl ⟨by rfl, ?_⟩) hHeld ?_
    rotate_left 1
    · intro wq hSw
      try dsimp only at hSw
      go_simp
      try (with_reducible rfl)
    try simp only [Act.put, List.setIfInBounds_toArray, List.set_cons_zero, List.set_cons_succ]
    refine wpAnyH_take (i := 7) (v := ?_) (by simp only [List.getElem?_toArray, List.getElem?_cons_succ, List.getElem?_cons_zero]; rfl) (by kernel_rfl) (by kernel_rfl) (by kernel_rfl) (by intro _ _ _ h; exact h) (Or.inl ⟨by rfl, ?_⟩) hHeld ?_
    rotate_left 1
    · intro wq hSw
      try dsimp only at hSw
      go_simp
      try (with_reducible rfl)
    try simp only [Act.put, List.setIfInBounds_toArray, List.set_cons_zero, List.set_cons_succ]
    refine wpAnyH_take (i := 8) (v := ?_) (by simp only [List.getElem?_toArray, List.getElem?_cons_succ, List.getElem?_cons_zero]; rfl) (by kernel_rfl) (by kernel_rfl) (by kernel_rfl) (by intro _ _ _ h; exact h) (Or.inl ⟨by rfl, ?_⟩) hHeld ?_
    rotate_left 1
    · intro wq hSw
      try dsimp only at hSw
      go_simp
      try (with_reducible rfl)
    try simp only [Act.put, List.setIfInBounds_toArray, List.set_cons_zero, List.set_cons_succ]
    refine wpAnyH_take (i := 9) (v := ?_) (by simp only [List.getElem?_toArray, List.getElem?_cons_succ, List.getElem?_cons_zero]; rfl) (by kernel_rfl) (by kernel_rfl) (by kernel_rfl) (by intro _ _ _ h; exact h) (Or.inl ⟨by rfl, ?_⟩) hHeld ?_
    rotate_left 1
    · intro wq hSw
      try dsimp only at hSw
      go_simp
      try (with_reducible rfl)
    try simp only [Act.put, List.setIfInBounds_toArray, List.set_cons_zero, List.set_cons_succ]
    refine wpAnyH_take (i := 10) (v := ?_) (by simp only [List.getElem?_toArray, List.getElem?_cons_succ, List.getElem?_cons_zero]; rfl) (by kernel_rfl) (by kernel_rfl) (by kernel_rfl) (by intro _ _ _ h; exact h) (Or.inl ⟨by rfl, ?_⟩) hHeld ?_
    rotate_left 1
    · intro wq hSw
      try dsimp only at hSw
      go_simp
      try (with_reducible rfl)
    try simp only [Act.put, List.setIfInBounds_toArray, List.set_cons_zero, List.set_cons_succ]
    refine wpAnyH_take (i := 11) (v := ?_) (by simp only [List.getElem?_toArray, List.getElem?_cons_succ, List.getElem?_cons_zero]; rfl) (by kernel_rfl) (by kernel_rfl) (by kernel_rfl) (by intro _ _ _ h; exact h) (Or.inl ⟨by rfl, ?_⟩) hHeld ?_
    rotate_left 1
    · intro wq hSw
      try dsimp only at hSw
      go_simp
      try (with_reducible rfl)
    try simp only [Act.put, List.setIfInBounds_toArray, List.set_cons_zero, List.set_cons_succ]
    refine wpAnyH_take (i := 12) (v := ?_) (by simp only [List.getElem?_toArray, List.getElem?_cons_succ, List.getElem?_cons_zero]; rfl) (by kernel_rfl) (by kernel_rfl) (by kernel_rfl) (by intro _ _ _ h; exact h) (Or.inl ⟨by rfl, ?_⟩) hHeld ?_
    rotate_left 1
    · intro wq hSw
      try dsimp only at hSw
      go_simp
      try (with_reducible rfl)
    try simp only [Act.put, List.setIfInBounds_toArray, List.set_cons_zero, List.set_cons_succ]
    refine wpAnyH_take (i := 13) (v := ?_) (by simp only [List.getElem?_toArray, List.getElem?_cons_succ, List.getElem?_cons_zero]; rfl) (by kernel_rfl) (by kernel_rfl) (by kernel_rfl) (by intro _ _ _ h; exact h) (Or.inl ⟨by rfl, ?_⟩) hHeld ?_
    rotate_left 1
    · intro wq hSw
      try dsimp only at hSw
      go_simp
      try (with_reducible rfl)
    try simp only [Act.put, List.setIfInBounds_toArray, List.set_cons_zero, List.set_cons_succ]
    refine wpAnyH_take (i := 14) (v := ?_) (by simp only [List.getElem?_toArray, List.getElem?_cons_succ, List.getElem?_cons_zero]; rfl) (by kernel_rfl) (by kernel_rfl) (by kernel_rfl) (by intro _ _ _ h; exact h) (Or.inl ⟨by rfl, ?_⟩) hHeld ?_
    rotate_left 1
    · intro wq hSw
      try dsimp only at hSw
      go_simp
      try (with_reducible rfl)
    try simp only [Act.put, List.setIfInBounds_toArray, List.set_cons_zero, List.set_cons_succ]
    refine wpAnyH_take (i := 15) (v := ?_) (by simp only [List.getElem?_toArray, List.getElem?_cons_succ, List.getElem?_cons_zero]; rfl) (by kernel_rfl) (by kernel_rfl) (by kernel_rfl) (by intro _ _ _ h; exact h) (Or.inl ⟨by rfl, ?_⟩) hHeld ?_
    rotate_left 1
    · intro wq hSw
      try dsimp only at hSw
      go_simp
      try (with_reducible rfl)
    try simp only [Act.put, List.setIfInBounds_toArray, List.set_cons_zero, List.set_cons_succ]
    refine wpAnyH_take (i := 16) (v := ?_) (by simp only [List.getElem?_toArray, List.getElem?_cons_succ, List.getElem?_cons_zero]; rfl) (by kernel_rfl) (by kernel_rfl) (by kernel_rfl) (by intro _ _ _ h; exact h) (Or.inl ⟨by rfl, ?_⟩) hHeld ?_
    rotate_left 1
    · intro wq hSw
      try dsimp only at hSw
      have q0 := (hSw.cell hgz).trans z0
      have q1 := (hSw.cell hgz).trans z1
      have q2 := (hSw.cell hgz).trans z2
      have q3 := (hSw.cell hgz).trans z3
      have q4 := (hSw.cell hgz).trans z4
      go_simp
      try (with_reducible rfl)
    try simp only [Act.put, List.setIfInBounds_toArray, List.set_cons_zero, List.set_cons_succ]
    refine wpAnyH_take (i := 17) (v := ?_) (by simp only [List.getElem?_toArray, List.getElem?_cons_succ, List.getElem?_cons_zero]; rfl) (by kernel_rfl) (by kernel_rfl) (by kernel_rfl) (by intro _ _ _ h; exact h) (Or.inl ⟨by rfl, ?_⟩) hHeld ?_
    rotate_left 1
    · intro wq hSw
      try dsimp only at hSw
      obtain ⟨q0, q1, q2, q3, q4, _⟩ := (Vy.under hSw).five
      go_simp
      try (with_reducible rfl)
    try simp only [Act.put, List.setIfInBounds_toArray, List.set_cons_zero, List.set_cons_succ]
    refine wpAnyH_ready (rs := [18]) (by kernel_rfl) (by simp) ?_
    refine AllReadyH.cons (by simp only [List.getElem?_toArray, List.getElem?_cons_succ, List.getElem?_cons_zero]; rfl) (fun K hK => ?_) AllReadyH.nil
    have hC1 := fSame_eq y.la y.n y.k y.g Az my cz y.l y.la y.n y.k y.g Ay my cy y.l wd (hSz.below hHeld) (sy.below hHeld) rfl
    go_simp
    refine hC1.mono ?_
    rintro e w14 ⟨rfl, b14⟩
    have b15 := hHeld.trans (b14.mono hHeld.size)
    go_wp2_with fail
    refine hK.out _ _ (b15) (fun hHeld => ?_)
    clear hK K
    try dsimp only at hHeld
    try simp only [Act.put, List.setIfInBounds_toArray, List.set_cons_zero, List.set_cons_succ]
    refine wpAnyH_take (i := 19) (v := ?_) (by simp only [List.getElem?_toArray, List.getElem?_cons_succ, List.getElem?_cons_zero]; rfl) (by kernel_rfl) (by kernel_rfl) (by kernel_rfl) (by intro _ _ _ h; exact h) (Or.inl ⟨by rfl, ?_⟩) hHeld ?_
    rotate_left 1
    · intro wq hSw
      try dsimp only at hSw
      go_simp
      try (with_reducible rfl)
    try simp only [Act.put, List.setIfInBounds_toArray, List.set_cons_zero, List.set_cons_succ]
    refine wpAnyH_take (i := 20) (v := ?_) (by simp only [List.getElem?_toArray, List.getElem?_cons_succ, List.getElem?_cons_zero]; rfl) (by kernel_rfl) (by kernel_rfl) (by kernel_rfl) (by intro _ _ _ h; exact h) (Or.inl ⟨by rfl, ?_⟩) hHeld ?_
    rotate_left 1
    · intro wq hSw
      try dsimp only at hSw
      go_simp
      try (with_reducible rfl)
    try simp only [Act.put, List.setIfInBounds_toArray, List.set_cons_zero, List.set_cons_succ]
    refine wpAnyH_done (by kernel_rfl) ?_ _
    go_wp2
    go_ret
    exact ⟨rfl, bb.trans (hHeld.mono bb.size)⟩
  · skip
    obtain rfl : lc = ld := hap (.inl ap1)
    clear hap
    obtain ⟨Vxq0, Vxq1, Vxq2, Vxq3, Vxq4, Vxr0, Vxr1, Vxr2, Vxr3, Vxr4⟩ := Vx.five
    have Vxl := Vx.lt
    obtain ⟨Vyq0, Vyq1, Vyq2, Vyq3, Vyq4, Vyr0, Vyr1, Vyr2, Vyr3, Vyr4⟩ := Vy.five
    have Vyl := Vy.lt
    replace h := h.alloc (.cells #[.int .i64 x.la, .int .i64 x.n, .int .i64 x.k, .int .i64 x.g, .slice Ax mx cx] 35)
    replace sx := sx.alloc (.cells #[.int .i64 x.la, .int .i64 x.n, .int .i64 x.k, .int .i64 x.g, .slice Ax mx cx] 35)
    replace sy := sy.alloc (.cells #[.int .i64 x.la, .int .i64 x.n, .int .i64 x.k, .int .i64 x.g, .slice Ax mx cx] 35)
    replace Vx := Vx.alloc (.cells #[.int .i64 x.la, .int .i64 x.n, .int .i64 x.k, .int .i64 x.g, .slice Ax mx cx] 35)
    replace Vy := Vy.alloc (.cells #[.int .i64 x.la, .int .i64 x.n, .int .i64 x.k, .int .i64 x.g, .slice Ax mx cx] 35)
    replace bb := bb.alloc bb.size (.cells #[.int .i64 x.la, .int .i64 x.n, .int .i64 x.k, .int .i64 x.g, .slice Ax mx cx] 35)
    have B0 := Blk.new w1 #[.int .i64 x.la, .int .i64 x.n, .int .i64 x.k, .int .i64 x.g, .slice Ax mx cx] 35
    go_wp2_with fail
    clear Vxq0 Vxq1 Vxq2 Vxq3 Vxq4 Vxr0 Vxr1 Vxr2 Vxr3 Vxr4
    clear Vyq0 Vyq1 Vyq2 Vyq3 Vyq4 Vyr0 Vyr1 Vyr2 Vyr3 Vyr4
    generalize (w1.alloc (.cells #[.int .i64 x.la, .int .i64 x.n, .int .i64 x.k, .int .i64 x.g, .slice Ax mx cx] 35)) = wl0 at *
    have hC0 := mLay_any b xs A n c [x] _ 1 1 wl0 h hla hn9 (rs_ext1 hxl B0 sx) (one_la hxla)
    rw [hm, if_neg (by decide)] at hC0
    replace hC0 : Calls _ _ _ _ (LErr _ la 0) := lay_at hC0 g1.2 g1.1
    have hC := hC0
    refine hC.mono ?_
    clear hC
    rintro e wm0 ⟨L0, k0, d0, hk0, rfl, R0, bl0⟩
    replace h := h.below bl0
    replace sx := sx.below bl0
    replace sy := sy.below bl0
    replace Vx := Vx.under bl0
    replace Vy := Vy.under bl0
    replace B0 := B0.under bl0
    replace bb := bb.trans (bl0.mono bb.size)
    clear hC0 B0
    obtain ⟨Vxq0, Vxq1, Vxq2, Vxq3, Vxq4, Vxr0, Vxr1, Vxr2, Vxr3, Vxr4⟩ := Vx.five
    have Vxl := Vx.lt
    replace h := h.alloc (.cells #[.int .i64 x.la, .int .i64 x.n, .int .i64 x.k, .int .i64 x.g, .slice Ax mx cx, .int .i64 x.la, .int .i64 x.n, .int .i64 x.k, .int .i64 x.g, .slice Ax mx cx] 35)
    replace sx := sx.alloc (.cells #[.int .i64 x.la, .int .i64 x.n, .int .i64 x.k, .int .i64 x.g, .slice Ax mx cx, .int .i64 x.la, .int .i64 x.n, .int .i64 x.k, .int .i64 x.g, .slice Ax mx cx] 35)
    replace sy := sy.alloc (.cells #[.int .i64 x.la, .int .i64 x.n, .int .i64 x.k, .int .i64 x.g, .slice Ax mx cx, .int .i64 x.la, .int .i64 x.n, .int .i64 x.k, .int .i64 x.g, .slice Ax mx cx] 35)
    replace Vx := Vx.alloc (.cells #[.int .i64 x.la, .int .i64 x.n, .int .i64 x.k, .int .i64 x.g, .slice Ax mx cx, .int .i64 x.la, .int .i64 x.n, .int .i64 x.k, .int .i64 x.g, .slice Ax mx cx] 35)
    replace Vy := Vy.alloc (.cells #[.int .i64 x.la, .int .i64 x.n, .int .i64 x.k, .int .i64 x.g, .slice Ax mx cx, .int .i64 x.la, .int .i64 x.n, .int .i64 x.k, .int .i64 x.g, .slice Ax mx cx] 35)
    replace R0 := R0.alloc (.cells #[.int .i64 x.la, .int .i64 x.n, .int .i64 x.k, .int .i64 x.g, .slice Ax mx cx, .int .i64 x.la, .int .i64 x.n, .int .i64 x.k, .int .i64 x.g, .slice Ax mx cx] 35)
    replace bb := bb.alloc bb.size (.cells #[.int .i64 x.la, .int .i64 x.n, .int .i64 x.k, .int .i64 x.g, .slice Ax mx cx, .int .i64 x.la, .int .i64 x.n, .int .i64 x.k, .int .i64 x.g, .slice Ax mx cx] 35)
    have B1 := Blk.new wm0 #[.int .i64 x.la, .int .i64 x.n, .int .i64 x.k, .int .i64 x.g, .slice Ax mx cx, .int .i64 x.la, .int .i64 x.n, .int .i64 x.k, .int .i64 x.g, .slice Ax mx cx] 35
    go_wp2_with fail
    clear Vxq0 Vxq1 Vxq2 Vxq3 Vxq4 Vxr0 Vxr1 Vxr2 Vxr3 Vxr4
    generalize (wm0.alloc (.cells #[.int .i64 x.la, .int .i64 x.n, .int .i64 x.k, .int .i64 x.g, .slice Ax mx cx, .int .i64 x.la, .int .i64 x.n, .int .i64 x.k, .int .i64 x.g, .slice Ax mx cx] 35)) = wl1 at *
    have hC0 := mLay_any b xs A n c [x, x] _ 2 2 wl1 h hla hn9 (rs_ext2x hxl hxl B1 sx sx) (two_la hxla hxla)
    rw [hm, if_neg (by decide)] at hC0
    replace hC0 : Calls _ _ _ _ (LErr _ la 0) := lay_at hC0 g2.2 g2.1
    have hC := hC0
    refine hC.mono ?_
    clear hC
    rintro e wm1 ⟨L1, k1, d1, hk1, rfl, R1, bl1⟩
    replace h := h.below bl1
    replace sx := sx.below bl1
    replace sy := sy.below bl1
    replace Vx := Vx.under bl1
    replace Vy := Vy.under bl1
    replace R0 := R0.below bl1
    replace B1 := B1.under bl1
    replace bb := bb.trans (bl1.mono bb.size)
    clear hC0 B1
    obtain ⟨Vxq0, Vxq1, Vxq2, Vxq3, Vxq4, Vxr0, Vxr1, Vxr2, Vxr3, Vxr4⟩ := Vx.five
    have Vxl := Vx.lt
    obtain ⟨Vyq0, Vyq1, Vyq2, Vyq3, Vyq4, Vyr0, Vyr1, Vyr2, Vyr3, Vyr4⟩ := Vy.five
    have Vyl := Vy.lt
    replace h := h.alloc (.cells #[.int .i64 x.la, .int .i64 x.n, .int .i64 x.k, .int .i64 x.g, .slice Ax mx cx, .int .i64 y.la, .int .i64 y.n, .int .i64 y.k, .int .i64 y.g, .slice Ay my cy] 35)
    replace sx := sx.alloc (.cells #[.int .i64 x.la, .int .i64 x.n, .int .i64 x.k, .int .i64 x.g, .slice Ax mx cx, .int .i64 y.la, .int .i64 y.n, .int .i64 y.k, .int .i64 y.g, .slice Ay my cy] 35)
    replace sy := sy.alloc (.cells #[.int .i64 x.la, .int .i64 x.n, .int .i64 x.k, .int .i64 x.g, .slice Ax mx cx, .int .i64 y.la, .int .i64 y.n, .int .i64 y.k, .int .i64 y.g, .slice Ay my cy] 35)
    replace Vx := Vx.alloc (.cells #[.int .i64 x.la, .int .i64 x.n, .int .i64 x.k, .int .i64 x.g, .slice Ax mx cx, .int .i64 y.la, .int .i64 y.n, .int .i64 y.k, .int .i64 y.g, .slice Ay my cy] 35)
    replace Vy := Vy.alloc (.cells #[.int .i64 x.la, .int .i64 x.n, .int .i64 x.k, .int .i64 x.g, .slice Ax mx cx, .int .i64 y.la, .int .i64 y.n, .int .i64 y.k, .int .i64 y.g, .slice Ay my cy] 35)
    replace R0 := R0.alloc (.cells #[.int .i64 x.la, .int .i64 x.n, .int .i64 x.k, .int .i64 x.g, .slice Ax mx cx, .int .i64 y.la, .int .i64 y.n, .int .i64 y.k, .int .i64 y.g, .slice Ay my cy] 35)
    replace R1 := R1.alloc (.cells #[.int .i64 x.la, .int .i64 x.n, .int .i64 x.k, .int .i64 x.g, .slice Ax mx cx, .int .i64 y.la, .int .i64 y.n, .int .i64 y.k, .int .i64 y.g, .slice Ay my cy] 35)
    replace bb := bb.alloc bb.size (.cells #[.int .i64 x.la, .int .i64 x.n, .int .i64 x.k, .int .i64 x.g, .slice Ax mx cx, .int .i64 y.la, .int .i64 y.n, .int .i64 y.k, .int .i64 y.g, .slice Ay my cy] 35)
    have B2 := Blk.new wm1 #[.int .i64 x.la, .int .i64 x.n, .int .i64 x.k, .int .i64 x.g, .slice Ax mx cx, .int .i64 y.la, .int .i64 y.n, .int .i64 y.k, .int .i64 y.g, .slice Ay my cy] 35
    go_wp2_with fail
    clear Vxq0 Vxq1 Vxq2 Vxq3 Vxq4 Vxr0 Vxr1 Vxr2 Vxr3 Vxr4
    clear Vyq0 Vyq1 Vyq2 Vyq3 Vyq4 Vyr0 Vyr1 Vyr2 Vyr3 Vyr4
    generalize (wm1.alloc (.cells #[.int .i64 x.la, .int .i64 x.n, .int .i64 x.k, .int .i64 x.g, .slice Ax mx cx, .int .i64 y.la, .int .i64 y.n, .int .i64 y.k, .int .i64 y.g, .slice Ay my cy] 35)) = wl2 at *
    have hC0 := mLay_any b xs A n c [x, y] _ 2 2 wl2 h hla hn9 (rs_ext2x hxl hyl B2 sx sy) (two_la hxla hyla)
    rw [hm, if_neg (by decide)] at hC0
    replace hC0 : Calls _ _ _ _ (LErr _ lc 0) := lay_at hC0 g3.2 g3.1
    have hC := hC0
    refine hC.mono ?_
    clear hC
    rintro e wm2 ⟨L2, k2, d2, hk2, rfl, R2, bl2⟩
    replace h := h.below bl2
    replace sx := sx.below bl2
    replace sy := sy.below bl2
    replace Vx := Vx.under bl2
    replace Vy := Vy.under bl2
    replace R0 := R0.below bl2
    replace R1 := R1.below bl2
    replace B2 := B2.under bl2
    replace bb := bb.trans (bl2.mono bb.size)
    clear hC0 B2
    obtain ⟨Vxq0, Vxq1, Vxq2, Vxq3, Vxq4, Vxr0, Vxr1, Vxr2, Vxr3, Vxr4⟩ := Vx.five
    have Vxl := Vx.lt
    obtain ⟨Vyq0, Vyq1, Vyq2, Vyq3, Vyq4, Vyr0, Vyr1, Vyr2, Vyr3, Vyr4⟩ := Vy.five
    have Vyl := Vy.lt
    replace h := h.alloc (.cells #[.int .i64 y.la, .int .i64 y.n, .int .i64 y.k, .int .i64 y.g, .slice Ay my cy, .int .i64 x.la, .int .i64 x.n, .int .i64 x.k, .int .i64 x.g, .slice Ax mx cx] 35)
    replace sx := sx.alloc (.cells #[.int .i64 y.la, .int .i64 y.n, .int .i64 y.k, .int .i64 y.g, .slice Ay my cy, .int .i64 x.la, .int .i64 x.n, .int .i64 x.k, .int .i64 x.g, .slice Ax mx cx] 35)
    replace sy := sy.alloc (.cells #[.int .i64 y.la, .int .i64 y.n, .int .i64 y.k, .int .i64 y.g, .slice Ay my cy, .int .i64 x.la, .int .i64 x.n, .int .i64 x.k, .int .i64 x.g, .slice Ax mx cx] 35)
    replace Vx := Vx.alloc (.cells #[.int .i64 y.la, .int .i64 y.n, .int .i64 y.k, .int .i64 y.g, .slice Ay my cy, .int .i64 x.la, .int .i64 x.n, .int .i64 x.k, .int .i64 x.g, .slice Ax mx cx] 35)
    replace Vy := Vy.alloc (.cells #[.int .i64 y.la, .int .i64 y.n, .int .i64 y.k, .int .i64 y.g, .slice Ay my cy, .int .i64 x.la, .int .i64 x.n, .int .i64 x.k, .int .i64 x.g, .slice Ax mx cx] 35)
    replace R0 := R0.alloc (.cells #[.int .i64 y.la, .int .i64 y.n, .int .i64 y.k, .int .i64 y.g, .slice Ay my cy, .int .i64 x.la, .int .i64 x.n, .int .i64 x.k, .int .i64 x.g, .slice Ax mx cx] 35)
    replace R1 := R1.alloc (.cells #[.int .i64 y.la, .int .i64 y.n, .int .i64 y.k, .int .i64 y.g, .slice Ay my cy, .int .i64 x.la, .int .i64 x.n, .int .i64 x.k, .int .i64 x.g, .slice Ax mx cx] 35)
    replace R2 := R2.alloc (.cells #[.int .i64 y.la, .int .i64 y.n, .int .i64 y.k, .int .i64 y.g, .slice Ay my cy, .int .i64 x.la, .int .i64 x.n, .int .i64 x.k, .int .i64 x.g, .slice Ax mx cx] 35)
    replace bb := bb.alloc bb.size (.cells #[.int .i64 y.la, .int .i64 y.n, .int .i64 y.k, .int .i64 y.g, .slice Ay my cy, .int .i64 x.la, .int .i64 x.n, .int .i64 x.k, .int .i64 x.g, .slice Ax mx cx] 35)
    have B3 := Blk.new wm2 #[.int .i64 y.la, .int .i64 y.n, .int .i64 y.k, .int .i64 y.g, .slice Ay my cy, .int .i64 x.la, .int .i64 x.n, .int .i64 x.k, .int .i64 x.g, .slice Ax mx cx] 35
    go_wp2_with fail
    clear Vxq0 Vxq1 Vxq2 Vxq3 Vxq4 Vxr0 Vxr1 Vxr2 Vxr3 Vxr4
    clear Vyq0 Vyq1 Vyq2 Vyq3 Vyq4 Vyr0 Vyr1 Vyr2 Vyr3 Vyr4
    generalize (wm2.alloc (.cells #[.int .i64 y.la, .int .i64 y.n, .int .i64 y.k, .int .i64 y.g, .slice Ay my cy, .int .i64 x.la, .int .i64 x.n, .int .i64 x.k, .int .i64 x.g, .slice Ax mx cx] 35)) = wl3 at *
    have hC0 := mLay_any b xs A n c [y, x] _ 2 2 wl3 h hla hn9 (rs_ext2x hyl hxl B3 sy sx) (two_la hyla hxla)
    rw [hm, if_neg (by decide)] at hC0
    replace hC0 : Calls _ _ _ _ (LErr _ lc 0) := lay_at hC0 g4.2 g4.1
    have hC := hC0
    refine hC.mono ?_
    clear hC
    rintro e wm3 ⟨L3, k3, d3, hk3, rfl, R3, bl3⟩
    replace h := h.below bl3
    replace sx := sx.below bl3
    replace sy := sy.below bl3
    replace Vx := Vx.under bl3
    replace Vy := Vy.under bl3
    replace R0 := R0.below bl3
    replace R1 := R1.below bl3
    replace R2 := R2.below bl3
    replace B3 := B3.under bl3
    replace bb := bb.trans (bl3.mono bb.size)
    clear hC0 B3
    obtain rfl : k0 = k1 := hk0.out.symm.trans hk1.out
    obtain ⟨Vxq0, Vxq1, Vxq2, Vxq3, Vxq4, Vxr0, Vxr1, Vxr2, Vxr3, Vxr4⟩ := Vx.five
    have Vxl := Vx.lt
    obtain ⟨Vyq0, Vyq1, Vyq2, Vyq3, Vyq4, Vyr0, Vyr1, Vyr2, Vyr3, Vyr4⟩ := Vy.five
    have Vyl := Vy.lt
    go_wp2_with fail
    clear Vxq0 Vxq1 Vxq2 Vxq3 Vxq4 Vxr0 Vxr1 Vxr2 Vxr3 Vxr4
    clear Vyq0 Vyq1 Vyq2 Vyq3 Vyq4 Vyr0 Vyr1 Vyr2 Vyr3 Vyr4
    have hC := fAll_any la L0 k0 d0 L1 d1 wm3 R0 R1
    refine hC.mono ?_
    clear hC
    rintro e wn1 ⟨rfl, c1⟩
    replace h := h.below c1
    replace sx := sx.below c1
    replace sy := sy.below c1
    replace Vx := Vx.under c1
    replace Vy := Vy.under c1
    replace R0 := R0.below c1
    replace R1 := R1.below c1
    replace R2 := R2.below c1
    replace R3 := R3.below c1
    replace bb := bb.trans (c1.mono bb.size)
    obtain rfl : k2 = k3 := hk2.out.symm.trans hk3.out
    go_wp2_with fail
    have hC := fAll_any lc L2 k2 d2 L3 d3 wn1 R2 R3
    refine hC.mono ?_
    clear hC
    rintro e wn2 ⟨rfl, c2⟩
    replace h := h.below c2
    replace sx := sx.below c2
    replace sy := sy.below c2
    replace Vx := Vx.under c2
    replace Vy := Vy.under c2
    replace R0 := R0.below c2
    replace R1 := R1.below c2
    replace R2 := R2.below c2
    replace R3 := R3.below c2
    replace bb := bb.trans (c2.mono bb.size)
    obtain ⟨Vyq0, Vyq1, Vyq2, Vyq3, Vyq4, Vyr0, Vyr1, Vyr2, Vyr3, Vyr4⟩ := Vy.five
    have Vyl := Vy.lt
    go_wp2_with fail
    clear Vyq0 Vyq1 Vyq2 Vyq3 Vyq4 Vyr0 Vyr1 Vyr2 Vyr3 Vyr4
    have hC1 := mRange_any b lc L2 k2 d2 y.la y.n wn2 hyla R2 hcla (by have := R2.len; have := hcl.out; have := hb64.out; omega)
    rw [hm2.out, if_neg (by decide), if_pos hyr.out, hpp] at hC1
    have hC := hC1
    refine hC.mono ?_
    clear hC
    rintro e wn3 ⟨L9, k9, d9, hk9, rfl, R9, c3⟩
    replace h := h.below c3
    replace sx := sx.below c3
    replace sy := sy.below c3
    replace Vx := Vx.under c3
    replace Vy := Vy.under c3
    replace R0 := R0.below c3
    replace R1 := R1.below c3
    replace R2 := R2.below c3
    replace R3 := R3.below c3
    replace bb := bb.trans (c3.mono bb.size)
    obtain rfl : 1 = k9 := hk9.out
    clear hC1
    obtain ⟨gb, o, z, Az, cz, rfl, _, hgz, hz, z0, z1, z2, z3, z4, hSz, _⟩ := R9.ext_at (show 0 < 1 by omega)
    obtain rfl : y = z := Option.some.inj hz
    rw [hyl] at z4 hSz
    simp only [Nat.zero_mul, Nat.add_zero] at z0 z1 z2 z3 z4
    go_wp2_with fail
    refine wp_region_held_drew (S := fun w' => Below wn3.heap.size wn3 w') (by kernel_rfl) (Below.refl _ _).drew (fun hHeld => ?_)
    try dsimp only at hHeld
    generalize wn3.drew = wd at *
    try simp only [Act.put, List.setIfInBounds_toArray, List.set_cons_zero, List.set_cons_succ]
    refine wpAnyH_take (i := 0) (v := ?_) (by simp only [List.getElem?_toArray, List.getElem?_cons_zero]; rfl) (by kernel_rfl) (by kernel_rfl) (by kernel_rfl) (by intro _ _ _ h; exact h) (Or.inl ⟨by rfl, ?_⟩) hHeld ?_
    rotate_left 1
    · intro wq hSw
      try dsimp only at hSw
      go_simp
      try (with_reducible rfl)
    try simp only [Act.put, List.setIfInBounds_toArray, List.set_cons_zero, List.set_cons_succ]
    refine wpAnyH_take (i := 1) (v := ?_) (by simp only [List.getElem?_toArray, List.getElem?_cons_succ, List.getElem?_cons_zero]; rfl) (by kernel_rfl) (by kernel_rfl) (by kernel_rfl) (by intro _ _ _ h; exact h) (Or.inl ⟨by rfl, ?_⟩) hHeld ?_
    rotate_left 1
    · intro wq hSw
      try dsimp only at hSw
      go_simp
      try (with_reducible rfl)
    try simp only [Act.put, List.setIfInBounds_toArray, List.set_cons_zero, List.set_cons_succ]
    refine wpAnyH_take (i := 2) (v := ?_) (by simp only [List.getElem?_toArray, List.getElem?_cons_succ, List.getElem?_cons_zero]; rfl) (by kernel_rfl) (by kernel_rfl) (by kernel_rfl) (by intro _ _ _ h; exact h) (Or.inl ⟨by rfl, ?_⟩) hHeld ?_
    rotate_left 1
    · intro wq hSw
      try dsimp only at hSw
      go_simp
      try (with_reducible rfl)
    try simp only [Act.put, List.setIfInBounds_toArray, List.set_cons_zero, List.set_cons_succ]
    refine wpAnyH_take (i := 3) (v := ?_) (by simp only [List.getElem?_toArray, List.getElem?_cons_succ, List.getElem?_cons_zero]; rfl) (by kernel_rfl) (by kernel_rfl) (by kernel_rfl) (by intro _ _ _ h; exact h) (Or.inl ⟨by rfl, ?_⟩) hHeld ?_
    rotate_left 1
    · intro wq hSw
      try dsimp only at hSw
      go_simp
      try (with_reducible rfl)
    try simp only [Act.put, List.setIfInBounds_toArray, List.set_cons_zero, List.set_cons_succ]
    refine wpAnyH_take (i := 4) (v := ?_) (by simp only [List.getElem?_toArray, List.getElem?_cons_succ, List.getElem?_cons_zero]; rfl) (by kernel_rfl) (by kernel_rfl) (by kernel_rfl) (by intro _ _ _ h; exact h) (Or.inl ⟨by rfl, ?_⟩) hHeld ?_
    rotate_left 1
    · intro wq hSw
      try dsimp only at hSw
      go_simp
      try (with_reducible rfl)
    try simp only [Act.put, List.setIfInBounds_toArray, List.set_cons_zero, List.set_cons_succ]
    refine wpAnyH_take (i := 5) (v := ?_) (by simp only [List.getElem?_toArray, List.getElem?_cons_succ, List.getElem?_cons_zero]; rfl) (by kernel_rfl) (by kernel_rfl) (by kernel_rfl) (by intro _ _ _ h; exact h) (Or.inl ⟨by rfl, ?_⟩) hHeld ?_
    rotate_left 1
    · intro wq hSw
      try dsimp only at hSw
      go_simp
      try (with_reducible rfl)
    try simp only [Act.put, List.setIfInBounds_toArray, List.set_cons_zero, List.set_cons_succ]
    refine wpAnyH_take (i := 6) (v := ?_) (by simp only [List.getElem?_toArray, List.getElem?_cons_succ, List.getElem?_cons_zero]; rfl) (by kernel_rfl) (by kernel_rfl) (by kernel_rfl) (by intro _ _ _ h; exact h) (Or.inl ⟨by rfl, ?_⟩) hHeld ?_
    rotate_left 1
    · intro wq hSw
      try dsimp only at hSw
      go_simp
      try (with_reducible rfl)
    try simp only [Act.put, List.setIfInBounds_toArray, List.set_cons_zero, List.set_cons_succ]
    refine wpAnyH_take (i := 7) (v := ?_) (by simp only [List.getElem?_toArray, List.getElem?_cons_succ, List.getElem?_cons_zero]; rfl) (by kernel_rfl) (by kernel_rfl) (by kernel_rfl) (by intro _ _ _ h; exact h) (Or.inl ⟨by rfl, ?_⟩) hHeld ?_
    rotate_left 1
    · intro wq hSw
      try dsimp only at hSw
      go_simp
      try (with_reducible rfl)
    try simp only [Act.put, List.setIfInBounds_toArray, List.set_cons_zero, List.set_cons_succ]
    refine wpAnyH_take (i := 8) (v := ?_) (by simp only [List.getElem?_toArray, List.getElem?_cons_succ, List.getElem?_cons_zero]; rfl) (by kernel_rfl) (by kernel_rfl) (by kernel_rfl) (by intro _ _ _ h; exact h) (Or.inl ⟨by rfl, ?_⟩) hHeld ?_
    rotate_left 1
    · intro wq hSw
      try dsimp only at hSw
      go_simp
      try (with_reducible rfl)
    try simp only [Act.put, List.setIfInBounds_toArray, List.set_cons_zero, List.set_cons_succ]
    refine wpAnyH_take (i := 9) (v := ?_) (by simp only [List.getElem?_toArray, List.getElem?_cons_succ, List.getElem?_cons_zero]; rfl) (by kernel_rfl) (by kernel_rfl) (by kernel_rfl) (by intro _ _ _ h; exact h) (Or.inl ⟨by rfl, ?_⟩) hHeld ?_
    rotate_left 1
    · intro wq hSw
      try dsimp only at hSw
      go_simp
      try (with_reducible rfl)
    try simp only [Act.put, List.setIfInBounds_toArray, List.set_cons_zero, List.set_cons_succ]
    refine wpAnyH_take (i := 10) (v := ?_) (by simp only [List.getElem?_toArray, List.getElem?_cons_succ, List.getElem?_cons_zero]; rfl) (by kernel_rfl) (by kernel_rfl) (by kernel_rfl) (by intro _ _ _ h; exact h) (Or.inl ⟨by rfl, ?_⟩) hHeld ?_
    rotate_left 1
    · intro wq hSw
      try dsimp only at hSw
      go_simp
      try (with_reducible rfl)
    try simp only [Act.put, List.setIfInBounds_toArray, List.set_cons_zero, List.set_cons_succ]
    refine wpAnyH_take (i := 11) (v := ?_) (by simp only [List.getElem?_toArray, List.getElem?_cons_succ, List.getElem?_cons_zero]; rfl) (by kernel_rfl) (by kernel_rfl) (by kernel_rfl) (by intro _ _ _ h; exact h) (Or.inl ⟨by rfl, ?_⟩) hHeld ?_
    rotate_left 1
    · intro wq hSw
      try dsimp only at hSw
      go_simp
      try (with_reducible rfl)
    try simp only [Act.put, List.setIfInBounds_toArray, List.set_cons_zero, List.set_cons_succ]
    refine wpAnyH_take (i := 12) (v := ?_) (by simp only [List.getElem?_toArray, List.getElem?_cons_succ, List.getElem?_cons_zero]; rfl) (by kernel_rfl) (by kernel_rfl) (by kernel_rfl) (by intro _ _ _ h; exact h) (Or.inl ⟨by rfl, ?_⟩) hHeld ?_
    rotate_left 1
    · intro wq hSw
      try dsimp only at hSw
      go_simp
      try (with_reducible rfl)
    try simp only [Act.put, List.setIfInBounds_toArray, List.set_cons_zero, List.set_cons_succ]
    refine wpAnyH_take (i := 13) (v := ?_) (by simp only [List.getElem?_toArray, List.getElem?_cons_succ, List.getElem?_cons_zero]; rfl) (by kernel_rfl) (by kernel_rfl) (by kernel_rfl) (by intro _ _ _ h; exact h) (Or.inl ⟨by rfl, ?_⟩) hHeld ?_
    rotate_left 1
    · intro wq hSw
      try dsimp only at hSw
      go_simp
      try (with_reducible rfl)
    try simp only [Act.put, List.setIfInBounds_toArray, List.set_cons_zero, List.set_cons_succ]
    refine wpAnyH_take (i := 14) (v := ?_) (by simp only [List.getElem?_toArray, List.getElem?_cons_succ, List.getElem?_cons_zero]; rfl) (by kernel_rfl) (by kernel_rfl) (by kernel_rfl) (by intro _ _ _ h; exact h) (Or.inl ⟨by rfl, ?_⟩) hHeld ?_
    rotate_left 1
    · intro wq hSw
      try dsimp only at hSw
      go_simp
      try (with_reducible rfl)
    try simp only [Act.put, List.setIfInBounds_toArray, List.set_cons_zero, List.set_cons_succ]
    refine wpAnyH_take (i := 15) (v := ?_) (by simp only [List.getElem?_toArray, List.getElem?_cons_succ, List.getElem?_cons_zero]; rfl) (by kernel_rfl) (by kernel_rfl) (by kernel_rfl) (by intro _ _ _ h; exact h) (Or.inl ⟨by rfl, ?_⟩) hHeld ?_
    rotate_left 1
    · intro wq hSw
      try dsimp only at hSw
      go_simp
      try (with_reducible rfl)
    try simp only [Act.put, List.setIfInBounds_toArray, List.set_cons_zero, List.set_cons_succ]
    refine wpAnyH_take (i := 16) (v := ?_) (by simp only [List.getElem?_toArray, List.getElem?_cons_succ, List.getElem?_cons_zero]; rfl) (by kernel_rfl) (by kernel_rfl) (by kernel_rfl) (by intro _ _ _ h; exact h) (Or.inl ⟨by rfl, ?_⟩) hHeld ?_
    rotate_left 1
    · intro wq hSw
      try dsimp only at hSw
      have q0 := (hSw.cell hgz).trans z0
      have q1 := (hSw.cell hgz).trans z1
      have q2 := (hSw.cell hgz).trans z2
      have q3 := (hSw.cell hgz).trans z3
      have q4 := (hSw.cell hgz).trans z4
      go_simp
      try (with_reducible rfl)
    try simp only [Act.put, List.setIfInBounds_toArray, List.set_cons_zero, List.set_cons_succ]
    refine wpAnyH_take (i := 17) (v := ?_) (by simp only [List.getElem?_toArray, List.getElem?_cons_succ, List.getElem?_cons_zero]; rfl) (by kernel_rfl) (by kernel_rfl) (by kernel_rfl) (by intro _ _ _ h; exact h) (Or.inl ⟨by rfl, ?_⟩) hHeld ?_
    rotate_left 1
    · intro wq hSw
      try dsimp only at hSw
      obtain ⟨q0, q1, q2, q3, q4, _⟩ := (Vy.under hSw).five
      go_simp
      try (with_reducible rfl)
    try simp only [Act.put, List.setIfInBounds_toArray, List.set_cons_zero, List.set_cons_succ]
    refine wpAnyH_ready (rs := [18]) (by kernel_rfl) (by simp) ?_
    refine AllReadyH.cons (by simp only [List.getElem?_toArray, List.getElem?_cons_succ, List.getElem?_cons_zero]; rfl) (fun K hK => ?_) AllReadyH.nil
    have hC1 := fSame_eq y.la y.n y.k y.g Az my cz y.l y.la y.n y.k y.g Ay my cy y.l wd (hSz.below hHeld) (sy.below hHeld) rfl
    go_simp
    refine hC1.mono ?_
    rintro e w14 ⟨rfl, b14⟩
    have b15 := hHeld.trans (b14.mono hHeld.size)
    go_wp2_with fail
    refine hK.out _ _ (b15) (fun hHeld => ?_)
    clear hK K
    try dsimp only at hHeld
    try simp only [Act.put, List.setIfInBounds_toArray, List.set_cons_zero, List.set_cons_succ]
    refine wpAnyH_take (i := 19) (v := ?_) (by simp only [List.getElem?_toArray, List.getElem?_cons_succ, List.getElem?_cons_zero]; rfl) (by kernel_rfl) (by kernel_rfl) (by kernel_rfl) (by intro _ _ _ h; exact h) (Or.inl ⟨by rfl, ?_⟩) hHeld ?_
    rotate_left 1
    · intro wq hSw
      try dsimp only at hSw
      go_simp
      try (with_reducible rfl)
    try simp only [Act.put, List.setIfInBounds_toArray, List.set_cons_zero, List.set_cons_succ]
    refine wpAnyH_take (i := 20) (v := ?_) (by simp only [List.getElem?_toArray, List.getElem?_cons_succ, List.getElem?_cons_zero]; rfl) (by kernel_rfl) (by kernel_rfl) (by kernel_rfl) (by intro _ _ _ h; exact h) (Or.inl ⟨by rfl, ?_⟩) hHeld ?_
    rotate_left 1
    · intro wq hSw
      try dsimp only at hSw
      go_simp
      try (with_reducible rfl)
    try simp only [Act.put, List.setIfInBounds_toArray, List.set_cons_zero, List.set_cons_succ]
    refine wpAnyH_done (by kernel_rfl) ?_ _
    go_wp2
    go_ret
    exact ⟨rfl, bb.trans (hHeld.mono bb.size)⟩
  · skip
    obtain rfl : lc = ld := hap (.inr ap2)
    clear hap
    obtain ⟨Vxq0, Vxq1, Vxq2, Vxq3, Vxq4, Vxr0, Vxr1, Vxr2, Vxr3, Vxr4⟩ := Vx.five
    have Vxl := Vx.lt
    obtain ⟨Vyq0, Vyq1, Vyq2, Vyq3, Vyq4, Vyr0, Vyr1, Vyr2, Vyr3, Vyr4⟩ := Vy.five
    have Vyl := Vy.lt
    replace h := h.alloc (.cells #[.int .i64 x.la, .int .i64 x.n, .int .i64 x.k, .int .i64 x.g, .slice Ax mx cx] 35)
    replace sx := sx.alloc (.cells #[.int .i64 x.la, .int .i64 x.n, .int .i64 x.k, .int .i64 x.g, .slice Ax mx cx] 35)
    replace sy := sy.alloc (.cells #[.int .i64 x.la, .int .i64 x.n, .int .i64 x.k, .int .i64 x.g, .slice Ax mx cx] 35)
    replace Vx := Vx.alloc (.cells #[.int .i64 x.la, .int .i64 x.n, .int .i64 x.k, .int .i64 x.g, .slice Ax mx cx] 35)
    replace Vy := Vy.alloc (.cells #[.int .i64 x.la, .int .i64 x.n, .int .i64 x.k, .int .i64 x.g, .slice Ax mx cx] 35)
    replace bb := bb.alloc bb.size (.cells #[.int .i64 x.la, .int .i64 x.n, .int .i64 x.k, .int .i64 x.g, .slice Ax mx cx] 35)
    have B0 := Blk.new w1 #[.int .i64 x.la, .int .i64 x.n, .int .i64 x.k, .int .i64 x.g, .slice Ax mx cx] 35
    go_wp2_with fail
    clear Vxq0 Vxq1 Vxq2 Vxq3 Vxq4 Vxr0 Vxr1 Vxr2 Vxr3 Vxr4
    clear Vyq0 Vyq1 Vyq2 Vyq3 Vyq4 Vyr0 Vyr1 Vyr2 Vyr3 Vyr4
    generalize (w1.alloc (.cells #[.int .i64 x.la, .int .i64 x.n, .int .i64 x.k, .int .i64 x.g, .slice Ax mx cx] 35)) = wl0 at *
    have hC0 := mLay_any b xs A n c [x] _ 1 1 wl0 h hla hn9 (rs_ext1 hxl B0 sx) (one_la hxla)
    rw [hm, if_neg (by decide)] at hC0
    replace hC0 : Calls _ _ _ _ (LErr _ la 0) := lay_at hC0 g1.2 g1.1
    have hC := hC0
    refine hC.mono ?_
    clear hC
    rintro e wm0 ⟨L0, k0, d0, hk0, rfl, R0, bl0⟩
    replace h := h.below bl0
    replace sx := sx.below bl0
    replace sy := sy.below bl0
    replace Vx := Vx.under bl0
    replace Vy := Vy.under bl0
    replace B0 := B0.under bl0
    replace bb := bb.trans (bl0.mono bb.size)
    clear hC0 B0
    obtain ⟨Vxq0, Vxq1, Vxq2, Vxq3, Vxq4, Vxr0, Vxr1, Vxr2, Vxr3, Vxr4⟩ := Vx.five
    have Vxl := Vx.lt
    replace h := h.alloc (.cells #[.int .i64 x.la, .int .i64 x.n, .int .i64 x.k, .int .i64 x.g, .slice Ax mx cx, .int .i64 x.la, .int .i64 x.n, .int .i64 x.k, .int .i64 x.g, .slice Ax mx cx] 35)
    replace sx := sx.alloc (.cells #[.int .i64 x.la, .int .i64 x.n, .int .i64 x.k, .int .i64 x.g, .slice Ax mx cx, .int .i64 x.la, .int .i64 x.n, .int .i64 x.k, .int .i64 x.g, .slice Ax mx cx] 35)
    replace sy := sy.alloc (.cells #[.int .i64 x.la, .int .i64 x.n, .int .i64 x.k, .int .i64 x.g, .slice Ax mx cx, .int .i64 x.la, .int .i64 x.n, .int .i64 x.k, .int .i64 x.g, .slice Ax mx cx] 35)
    replace Vx := Vx.alloc (.cells #[.int .i64 x.la, .int .i64 x.n, .int .i64 x.k, .int .i64 x.g, .slice Ax mx cx, .int .i64 x.la, .int .i64 x.n, .int .i64 x.k, .int .i64 x.g, .slice Ax mx cx] 35)
    replace Vy := Vy.alloc (.cells #[.int .i64 x.la, .int .i64 x.n, .int .i64 x.k, .int .i64 x.g, .slice Ax mx cx, .int .i64 x.la, .int .i64 x.n, .int .i64 x.k, .int .i64 x.g, .slice Ax mx cx] 35)
    replace R0 := R0.alloc (.cells #[.int .i64 x.la, .int .i64 x.n, .int .i64 x.k, .int .i64 x.g, .slice Ax mx cx, .int .i64 x.la, .int .i64 x.n, .int .i64 x.k, .int .i64 x.g, .slice Ax mx cx] 35)
    replace bb := bb.alloc bb.size (.cells #[.int .i64 x.la, .int .i64 x.n, .int .i64 x.k, .int .i64 x.g, .slice Ax mx cx, .int .i64 x.la, .int .i64 x.n, .int .i64 x.k, .int .i64 x.g, .slice Ax mx cx] 35)
    have B1 := Blk.new wm0 #[.int .i64 x.la, .int .i64 x.n, .int .i64 x.k, .int .i64 x.g, .slice Ax mx cx, .int .i64 x.la, .int .i64 x.n, .int .i64 x.k, .int .i64 x.g, .slice Ax mx cx] 35
    go_wp2_with fail
    clear Vxq0 Vxq1 Vxq2 Vxq3 Vxq4 Vxr0 Vxr1 Vxr2 Vxr3 Vxr4
    generalize (wm0.alloc (.cells #[.int .i64 x.la, .int .i64 x.n, .int .i64 x.k, .int .i64 x.g, .slice Ax mx cx, .int .i64 x.la, .int .i64 x.n, .int .i64 x.k, .int .i64 x.g, .slice Ax mx cx] 35)) = wl1 at *
    have hC0 := mLay_any b xs A n c [x, x] _ 2 2 wl1 h hla hn9 (rs_ext2x hxl hxl B1 sx sx) (two_la hxla hxla)
    rw [hm, if_neg (by decide)] at hC0
    replace hC0 : Calls _ _ _ _ (LErr _ la 0) := lay_at hC0 g2.2 g2.1
    have hC := hC0
    refine hC.mono ?_
    clear hC
    rintro e wm1 ⟨L1, k1, d1, hk1, rfl, R1, bl1⟩
    replace h := h.below bl1
    replace sx := sx.below bl1
    replace sy := sy.below bl1
    replace Vx := Vx.under bl1
    replace Vy := Vy.under bl1
    replace R0 := R0.below bl1
    replace B1 := B1.under bl1
    replace bb := bb.trans (bl1.mono bb.size)
    clear hC0 B1
    obtain ⟨Vxq0, Vxq1, Vxq2, Vxq3, Vxq4, Vxr0, Vxr1, Vxr2, Vxr3, Vxr4⟩ := Vx.five
    have Vxl := Vx.lt
    obtain ⟨Vyq0, Vyq1, Vyq2, Vyq3, Vyq4, Vyr0, Vyr1, Vyr2, Vyr3, Vyr4⟩ := Vy.five
    have Vyl := Vy.lt
    replace h := h.alloc (.cells #[.int .i64 x.la, .int .i64 x.n, .int .i64 x.k, .int .i64 x.g, .slice Ax mx cx, .int .i64 y.la, .int .i64 y.n, .int .i64 y.k, .int .i64 y.g, .slice Ay my cy] 35)
    replace sx := sx.alloc (.cells #[.int .i64 x.la, .int .i64 x.n, .int .i64 x.k, .int .i64 x.g, .slice Ax mx cx, .int .i64 y.la, .int .i64 y.n, .int .i64 y.k, .int .i64 y.g, .slice Ay my cy] 35)
    replace sy := sy.alloc (.cells #[.int .i64 x.la, .int .i64 x.n, .int .i64 x.k, .int .i64 x.g, .slice Ax mx cx, .int .i64 y.la, .int .i64 y.n, .int .i64 y.k, .int .i64 y.g, .slice Ay my cy] 35)
    replace Vx := Vx.alloc (.cells #[.int .i64 x.la, .int .i64 x.n, .int .i64 x.k, .int .i64 x.g, .slice Ax mx cx, .int .i64 y.la, .int .i64 y.n, .int .i64 y.k, .int .i64 y.g, .slice Ay my cy] 35)
    replace Vy := Vy.alloc (.cells #[.int .i64 x.la, .int .i64 x.n, .int .i64 x.k, .int .i64 x.g, .slice Ax mx cx, .int .i64 y.la, .int .i64 y.n, .int .i64 y.k, .int .i64 y.g, .slice Ay my cy] 35)
    replace R0 := R0.alloc (.cells #[.int .i64 x.la, .int .i64 x.n, .int .i64 x.k, .int .i64 x.g, .slice Ax mx cx, .int .i64 y.la, .int .i64 y.n, .int .i64 y.k, .int .i64 y.g, .slice Ay my cy] 35)
    replace R1 := R1.alloc (.cells #[.int .i64 x.la, .int .i64 x.n, .int .i64 x.k, .int .i64 x.g, .slice Ax mx cx, .int .i64 y.la, .int .i64 y.n, .int .i64 y.k, .int .i64 y.g, .slice Ay my cy] 35)
    replace bb := bb.alloc bb.size (.cells #[.int .i64 x.la, .int .i64 x.n, .int .i64 x.k, .int .i64 x.g, .slice Ax mx cx, .int .i64 y.la, .int .i64 y.n, .int .i64 y.k, .int .i64 y.g, .slice Ay my cy] 35)
    have B2 := Blk.new wm1 #[.int .i64 x.la, .int .i64 x.n, .int .i64 x.k, .int .i64 x.g, .slice Ax mx cx, .int .i64 y.la, .int .i64 y.n, .int .i64 y.k, .int .i64 y.g, .slice Ay my cy] 35
    go_wp2_with fail
    clear Vxq0 Vxq1 Vxq2 Vxq3 Vxq4 Vxr0 Vxr1 Vxr2 Vxr3 Vxr4
    clear Vyq0 Vyq1 Vyq2 Vyq3 Vyq4 Vyr0 Vyr1 Vyr2 Vyr3 Vyr4
    generalize (wm1.alloc (.cells #[.int .i64 x.la, .int .i64 x.n, .int .i64 x.k, .int .i64 x.g, .slice Ax mx cx, .int .i64 y.la, .int .i64 y.n, .int .i64 y.k, .int .i64 y.g, .slice Ay my cy] 35)) = wl2 at *
    have hC0 := mLay_any b xs A n c [x, y] _ 2 2 wl2 h hla hn9 (rs_ext2x hxl hyl B2 sx sy) (two_la hxla hyla)
    rw [hm, if_neg (by decide)] at hC0
    replace hC0 : Calls _ _ _ _ (LErr _ lc 0) := lay_at hC0 g3.2 g3.1
    have hC := hC0
    refine hC.mono ?_
    clear hC
    rintro e wm2 ⟨L2, k2, d2, hk2, rfl, R2, bl2⟩
    replace h := h.below bl2
    replace sx := sx.below bl2
    replace sy := sy.below bl2
    replace Vx := Vx.under bl2
    replace Vy := Vy.under bl2
    replace R0 := R0.below bl2
    replace R1 := R1.below bl2
    replace B2 := B2.under bl2
    replace bb := bb.trans (bl2.mono bb.size)
    clear hC0 B2
    obtain ⟨Vxq0, Vxq1, Vxq2, Vxq3, Vxq4, Vxr0, Vxr1, Vxr2, Vxr3, Vxr4⟩ := Vx.five
    have Vxl := Vx.lt
    obtain ⟨Vyq0, Vyq1, Vyq2, Vyq3, Vyq4, Vyr0, Vyr1, Vyr2, Vyr3, Vyr4⟩ := Vy.five
    have Vyl := Vy.lt
    replace h := h.alloc (.cells #[.int .i64 y.la, .int .i64 y.n, .int .i64 y.k, .int .i64 y.g, .slice Ay my cy, .int .i64 x.la, .int .i64 x.n, .int .i64 x.k, .int .i64 x.g, .slice Ax mx cx] 35)
    replace sx := sx.alloc (.cells #[.int .i64 y.la, .int .i64 y.n, .int .i64 y.k, .int .i64 y.g, .slice Ay my cy, .int .i64 x.la, .int .i64 x.n, .int .i64 x.k, .int .i64 x.g, .slice Ax mx cx] 35)
    replace sy := sy.alloc (.cells #[.int .i64 y.la, .int .i64 y.n, .int .i64 y.k, .int .i64 y.g, .slice Ay my cy, .int .i64 x.la, .int .i64 x.n, .int .i64 x.k, .int .i64 x.g, .slice Ax mx cx] 35)
    replace Vx := Vx.alloc (.cells #[.int .i64 y.la, .int .i64 y.n, .int .i64 y.k, .int .i64 y.g, .slice Ay my cy, .int .i64 x.la, .int .i64 x.n, .int .i64 x.k, .int .i64 x.g, .slice Ax mx cx] 35)
    replace Vy := Vy.alloc (.cells #[.int .i64 y.la, .int .i64 y.n, .int .i64 y.k, .int .i64 y.g, .slice Ay my cy, .int .i64 x.la, .int .i64 x.n, .int .i64 x.k, .int .i64 x.g, .slice Ax mx cx] 35)
    replace R0 := R0.alloc (.cells #[.int .i64 y.la, .int .i64 y.n, .int .i64 y.k, .int .i64 y.g, .slice Ay my cy, .int .i64 x.la, .int .i64 x.n, .int .i64 x.k, .int .i64 x.g, .slice Ax mx cx] 35)
    replace R1 := R1.alloc (.cells #[.int .i64 y.la, .int .i64 y.n, .int .i64 y.k, .int .i64 y.g, .slice Ay my cy, .int .i64 x.la, .int .i64 x.n, .int .i64 x.k, .int .i64 x.g, .slice Ax mx cx] 35)
    replace R2 := R2.alloc (.cells #[.int .i64 y.la, .int .i64 y.n, .int .i64 y.k, .int .i64 y.g, .slice Ay my cy, .int .i64 x.la, .int .i64 x.n, .int .i64 x.k, .int .i64 x.g, .slice Ax mx cx] 35)
    replace bb := bb.alloc bb.size (.cells #[.int .i64 y.la, .int .i64 y.n, .int .i64 y.k, .int .i64 y.g, .slice Ay my cy, .int .i64 x.la, .int .i64 x.n, .int .i64 x.k, .int .i64 x.g, .slice Ax mx cx] 35)
    have B3 := Blk.new wm2 #[.int .i64 y.la, .int .i64 y.n, .int .i64 y.k, .int .i64 y.g, .slice Ay my cy, .int .i64 x.la, .int .i64 x.n, .int .i64 x.k, .int .i64 x.g, .slice Ax mx cx] 35
    go_wp2_with fail
    clear Vxq0 Vxq1 Vxq2 Vxq3 Vxq4 Vxr0 Vxr1 Vxr2 Vxr3 Vxr4
    clear Vyq0 Vyq1 Vyq2 Vyq3 Vyq4 Vyr0 Vyr1 Vyr2 Vyr3 Vyr4
    generalize (wm2.alloc (.cells #[.int .i64 y.la, .int .i64 y.n, .int .i64 y.k, .int .i64 y.g, .slice Ay my cy, .int .i64 x.la, .int .i64 x.n, .int .i64 x.k, .int .i64 x.g, .slice Ax mx cx] 35)) = wl3 at *
    have hC0 := mLay_any b xs A n c [y, x] _ 2 2 wl3 h hla hn9 (rs_ext2x hyl hxl B3 sy sx) (two_la hyla hxla)
    rw [hm, if_neg (by decide)] at hC0
    replace hC0 : Calls _ _ _ _ (LErr _ lc 0) := lay_at hC0 g4.2 g4.1
    have hC := hC0
    refine hC.mono ?_
    clear hC
    rintro e wm3 ⟨L3, k3, d3, hk3, rfl, R3, bl3⟩
    replace h := h.below bl3
    replace sx := sx.below bl3
    replace sy := sy.below bl3
    replace Vx := Vx.under bl3
    replace Vy := Vy.under bl3
    replace R0 := R0.below bl3
    replace R1 := R1.below bl3
    replace R2 := R2.below bl3
    replace B3 := B3.under bl3
    replace bb := bb.trans (bl3.mono bb.size)
    clear hC0 B3
    obtain rfl : k0 = k1 := hk0.out.symm.trans hk1.out
    obtain ⟨Vxq0, Vxq1, Vxq2, Vxq3, Vxq4, Vxr0, Vxr1, Vxr2, Vxr3, Vxr4⟩ := Vx.five
    have Vxl := Vx.lt
    obtain ⟨Vyq0, Vyq1, Vyq2, Vyq3, Vyq4, Vyr0, Vyr1, Vyr2, Vyr3, Vyr4⟩ := Vy.five
    have Vyl := Vy.lt
    go_wp2_with fail
    clear Vxq0 Vxq1 Vxq2 Vxq3 Vxq4 Vxr0 Vxr1 Vxr2 Vxr3 Vxr4
    clear Vyq0 Vyq1 Vyq2 Vyq3 Vyq4 Vyr0 Vyr1 Vyr2 Vyr3 Vyr4
    have hC := fAll_any la L0 k0 d0 L1 d1 wm3 R0 R1
    refine hC.mono ?_
    clear hC
    rintro e wn1 ⟨rfl, c1⟩
    replace h := h.below c1
    replace sx := sx.below c1
    replace sy := sy.below c1
    replace Vx := Vx.under c1
    replace Vy := Vy.under c1
    replace R0 := R0.below c1
    replace R1 := R1.below c1
    replace R2 := R2.below c1
    replace R3 := R3.below c1
    replace bb := bb.trans (c1.mono bb.size)
    obtain rfl : k2 = k3 := hk2.out.symm.trans hk3.out
    go_wp2_with fail
    have hC := fAll_any lc L2 k2 d2 L3 d3 wn1 R2 R3
    refine hC.mono ?_
    clear hC
    rintro e wn2 ⟨rfl, c2⟩
    replace h := h.below c2
    replace sx := sx.below c2
    replace sy := sy.below c2
    replace Vx := Vx.under c2
    replace Vy := Vy.under c2
    replace R0 := R0.below c2
    replace R1 := R1.below c2
    replace R2 := R2.below c2
    replace R3 := R3.below c2
    replace bb := bb.trans (c2.mono bb.size)
    obtain ⟨Vyq0, Vyq1, Vyq2, Vyq3, Vyq4, Vyr0, Vyr1, Vyr2, Vyr3, Vyr4⟩ := Vy.five
    have Vyl := Vy.lt
    go_wp2_with fail
    clear Vyq0 Vyq1 Vyq2 Vyq3 Vyq4 Vyr0 Vyr1 Vyr2 Vyr3 Vyr4
    have hC1 := mRange_any b lc L2 k2 d2 y.la y.n wn2 hyla R2 hcla (by have := R2.len; have := hcl.out; have := hb64.out; omega)
    rw [hm2.out, if_neg (by decide), if_pos hyr.out, hpp] at hC1
    have hC := hC1
    refine hC.mono ?_
    clear hC
    rintro e wn3 ⟨L9, k9, d9, hk9, rfl, R9, c3⟩
    replace h := h.below c3
    replace sx := sx.below c3
    replace sy := sy.below c3
    replace Vx := Vx.under c3
    replace Vy := Vy.under c3
    replace R0 := R0.below c3
    replace R1 := R1.below c3
    replace R2 := R2.below c3
    replace R3 := R3.below c3
    replace bb := bb.trans (c3.mono bb.size)
    obtain rfl : 1 = k9 := hk9.out
    clear hC1
    obtain ⟨gb, o, z, Az, cz, rfl, _, hgz, hz, z0, z1, z2, z3, z4, hSz, _⟩ := R9.ext_at (show 0 < 1 by omega)
    obtain rfl : y = z := Option.some.inj hz
    rw [hyl] at z4 hSz
    simp only [Nat.zero_mul, Nat.add_zero] at z0 z1 z2 z3 z4
    go_wp2_with fail
    refine wp_region_held_drew (S := fun w' => Below wn3.heap.size wn3 w') (by kernel_rfl) (Below.refl _ _).drew (fun hHeld => ?_)
    try dsimp only at hHeld
    generalize wn3.drew = wd at *
    try simp only [Act.put, List.setIfInBounds_toArray, List.set_cons_zero, List.set_cons_succ]
    refine wpAnyH_take (i := 0) (v := ?_) (by simp only [List.getElem?_toArray, List.getElem?_cons_zero]; rfl) (by kernel_rfl) (by kernel_rfl) (by kernel_rfl) (by intro _ _ _ h; exact h) (Or.inl ⟨by rfl, ?_⟩) hHeld ?_
    rotate_left 1
    · intro wq hSw
      try dsimp only at hSw
      go_simp
      try (with_reducible rfl)
    try simp only [Act.put, List.setIfInBounds_toArray, List.set_cons_zero, List.set_cons_succ]
    refine wpAnyH_take (i := 1) (v := ?_) (by simp only [List.getElem?_toArray, List.getElem?_cons_succ, List.getElem?_cons_zero]; rfl) (by kernel_rfl) (by kernel_rfl) (by kernel_rfl) (by intro _ _ _ h; exact h) (Or.inl ⟨by rfl, ?_⟩) hHeld ?_
    rotate_left 1
    · intro wq hSw
      try dsimp only at hSw
      go_simp
      try (with_reducible rfl)
    try simp only [Act.put, List.setIfInBounds_toArray, List.set_cons_zero, List.set_cons_succ]
    refine wpAnyH_take (i := 2) (v := ?_) (by simp only [List.getElem?_toArray, List.getElem?_cons_succ, List.getElem?_cons_zero]; rfl) (by kernel_rfl) (by kernel_rfl) (by kernel_rfl) (by intro _ _ _ h; exact h) (Or.inl ⟨by rfl, ?_⟩) hHeld ?_
    rotate_left 1
    · intro wq hSw
      try dsimp only at hSw
      go_simp
      try (with_reducible rfl)
    try simp only [Act.put, List.setIfInBounds_toArray, List.set_cons_zero, List.set_cons_succ]
    refine wpAnyH_take (i := 3) (v := ?_) (by simp only [List.getElem?_toArray, List.getElem?_cons_succ, List.getElem?_cons_zero]; rfl) (by kernel_rfl) (by kernel_rfl) (by kernel_rfl) (by intro _ _ _ h; exact h) (Or.inl ⟨by rfl, ?_⟩) hHeld ?_
    rotate_left 1
    · intro wq hSw
      try dsimp only at hSw
      go_simp
      try (with_reducible rfl)
    try simp only [Act.put, List.setIfInBounds_toArray, List.set_cons_zero, List.set_cons_succ]
    refine wpAnyH_take (i := 4) (v := ?_) (by simp only [List.getElem?_toArray, List.getElem?_cons_succ, List.getElem?_cons_zero]; rfl) (by kernel_rfl) (by kernel_rfl) (by kernel_rfl) (by intro _ _ _ h; exact h) (Or.inl ⟨by rfl, ?_⟩) hHeld ?_
    rotate_left 1
    · intro wq hSw
      try dsimp only at hSw
      go_simp
      try (with_reducible rfl)
    try simp only [Act.put, List.setIfInBounds_toArray, List.set_cons_zero, List.set_cons_succ]
    refine wpAnyH_take (i := 5) (v := ?_) (by simp only [List.getElem?_toArray, List.getElem?_cons_succ, List.getElem?_cons_zero]; rfl) (by kernel_rfl) (by kernel_rfl) (by kernel_rfl) (by intro _ _ _ h; exact h) (Or.inl ⟨by rfl, ?_⟩) hHeld ?_
    rotate_left 1
    · intro wq hSw
      try dsimp only at hSw
      go_simp
      try (with_reducible rfl)
    try simp only [Act.put, List.setIfInBounds_toArray, List.set_cons_zero, List.set_cons_succ]
    refine wpAnyH_take (i := 6) (v := ?_) (by simp only [List.getElem?_toArray, List.getElem?_cons_succ, List.getElem?_cons_zero]; rfl) (by kernel_rfl) (by kernel_rfl) (by kernel_rfl) (by intro _ _ _ h; exact h) (Or.inl ⟨by rfl, ?_⟩) hHeld ?_
    rotate_left 1
    · intro wq hSw
      try dsimp only at hSw
      go_simp
      try (with_reducible rfl)
    try simp only [Act.put, List.setIfInBounds_toArray, List.set_cons_zero, List.set_cons_succ]
    refine wpAnyH_take (i := 7) (v := ?_) (by simp only [List.getElem?_toArray, List.getElem?_cons_succ, List.getElem?_cons_zero]; rfl) (by kernel_rfl) (by kernel_rfl) (by kernel_rfl) (by intro _ _ _ h; exact h) (Or.inl ⟨by rfl, ?_⟩) hHeld ?_
    rotate_left 1
    · intro wq hSw
      try dsimp only at hSw
      go_simp
      try (with_reducible rfl)
    try simp only [Act.put, List.setIfInBounds_toArray, List.set_cons_zero, List.set_cons_succ]
    refine wpAnyH_take (i := 8) (v := ?_) (by simp only [List.getElem?_toArray, List.getElem?_cons_succ, List.getElem?_cons_zero]; rfl) (by kernel_rfl) (by kernel_rfl) (by kernel_rfl) (by intro _ _ _ h; exact h) (Or.inl ⟨by rfl, ?_⟩) hHeld ?_
    rotate_left 1
    · intro wq hSw
      try dsimp only at hSw
      go_simp
      try (with_reducible rfl)
    try simp only [Act.put, List.setIfInBounds_toArray, List.set_cons_zero, List.set_cons_succ]
    refine wpAnyH_take (i := 9) (v := ?_) (by simp only [List.getElem?_toArray, List.getElem?_cons_succ, List.getElem?_cons_zero]; rfl) (by kernel_rfl) (by kernel_rfl) (by kernel_rfl) (by intro _ _ _ h; exact h) (Or.inl ⟨by rfl, ?_⟩) hHeld ?_
    rotate_left 1
    · intro wq hSw
      try dsimp only at hSw
      go_simp
      try (with_reducible rfl)
    try simp only [Act.put, List.setIfInBounds_toArray, List.set_cons_zero, List.set_cons_succ]
    refine wpAnyH_take (i := 10) (v := ?_) (by simp only [List.getElem?_toArray, List.getElem?_cons_succ, List.getElem?_cons_zero]; rfl) (by kernel_rfl) (by kernel_rfl) (by kernel_rfl) (by intro _ _ _ h; exact h) (Or.inl ⟨by rfl, ?_⟩) hHeld ?_
    rotate_left 1
    · intro wq hSw
      try dsimp only at hSw
      go_simp
      try (with_reducible rfl)
    try simp only [Act.put, List.setIfInBounds_toArray, List.set_cons_zero, List.set_cons_succ]
    refine wpAnyH_take (i := 11) (v := ?_) (by simp only [List.getElem?_toArray, List.getElem?_cons_succ, List.getElem?_cons_zero]; rfl) (by kernel_rfl) (by kernel_rfl) (by kernel_rfl) (by intro _ _ _ h; exact h) (Or.inl ⟨by rfl, ?_⟩) hHeld ?_
    rotate_left 1
    · intro wq hSw
      try dsimp only at hSw
      go_simp
      try (with_reducible rfl)
    try simp only [Act.put, List.setIfInBounds_toArray, List.set_cons_zero, List.set_cons_succ]
    refine wpAnyH_take (i := 12) (v := ?_) (by simp only [List.getElem?_toArray, List.getElem?_cons_succ, List.getElem?_cons_zero]; rfl) (by kernel_rfl) (by kernel_rfl) (by kernel_rfl) (by intro _ _ _ h; exact h) (Or.inl ⟨by rfl, ?_⟩) hHeld ?_
    rotate_left 1
    · intro wq hSw
      try dsimp only at hSw
      go_simp
      try (with_reducible rfl)
    try simp only [Act.put, List.setIfInBounds_toArray, List.set_cons_zero, List.set_cons_succ]
    refine wpAnyH_take (i := 13) (v := ?_) (by simp only [List.getElem?_toArray, List.getElem?_cons_succ, List.getElem?_cons_zero]; rfl) (by kernel_rfl) (by kernel_rfl) (by kernel_rfl) (by intro _ _ _ h; exact h) (Or.inl ⟨by rfl, ?_⟩) hHeld ?_
    rotate_left 1
    · intro wq hSw
      try dsimp only at hSw
      go_simp
      try (with_reducible rfl)
    try simp only [Act.put, List.setIfInBounds_toArray, List.set_cons_zero, List.set_cons_succ]
    refine wpAnyH_take (i := 14) (v := ?_) (by simp only [List.getElem?_toArray, List.getElem?_cons_succ, List.getElem?_cons_zero]; rfl) (by kernel_rfl) (by kernel_rfl) (by kernel_rfl) (by intro _ _ _ h; exact h) (Or.inl ⟨by rfl, ?_⟩) hHeld ?_
    rotate_left 1
    · intro wq hSw
      try dsimp only at hSw
      go_simp
      try (with_reducible rfl)
    try simp only [Act.put, List.setIfInBounds_toArray, List.set_cons_zero, List.set_cons_succ]
    refine wpAnyH_take (i := 15) (v := ?_) (by simp only [List.getElem?_toArray, List.getElem?_cons_succ, List.getElem?_cons_zero]; rfl) (by kernel_rfl) (by kernel_rfl) (by kernel_rfl) (by intro _ _ _ h; exact h) (Or.inl ⟨by rfl, ?_⟩) hHeld ?_
    rotate_left 1
    · intro wq hSw
      try dsimp only at hSw
      go_simp
      try (with_reducible rfl)
    try simp only [Act.put, List.setIfInBounds_toArray, List.set_cons_zero, List.set_cons_succ]
    refine wpAnyH_take (i := 16) (v := ?_) (by simp only [List.getElem?_toArray, List.getElem?_cons_succ, List.getElem?_cons_zero]; rfl) (by kernel_rfl) (by kernel_rfl) (by kernel_rfl) (by intro _ _ _ h; exact h) (Or.inl ⟨by rfl, ?_⟩) hHeld ?_
    rotate_left 1
    · intro wq hSw
      try dsimp only at hSw
      have q0 := (hSw.cell hgz).trans z0
      have q1 := (hSw.cell hgz).trans z1
      have q2 := (hSw.cell hgz).trans z2
      have q3 := (hSw.cell hgz).trans z3
      have q4 := (hSw.cell hgz).trans z4
      go_simp
      try (with_reducible rfl)
    try simp only [Act.put, List.setIfInBounds_toArray, List.set_cons_zero, List.set_cons_succ]
    refine wpAnyH_take (i := 17) (v := ?_) (by simp only [List.getElem?_toArray, List.getElem?_cons_succ, List.getElem?_cons_zero]; rfl) (by kernel_rfl) (by kernel_rfl) (by kernel_rfl) (by intro _ _ _ h; exact h) (Or.inl ⟨by rfl, ?_⟩) hHeld ?_
    rotate_left 1
    · intro wq hSw
      try dsimp only at hSw
      obtain ⟨q0, q1, q2, q3, q4, _⟩ := (Vy.under hSw).five
      go_simp
      try (with_reducible rfl)
    try simp only [Act.put, List.setIfInBounds_toArray, List.set_cons_zero, List.set_cons_succ]
    refine wpAnyH_ready (rs := [18]) (by kernel_rfl) (by simp) ?_
    refine AllReadyH.cons (by simp only [List.getElem?_toArray, List.getElem?_cons_succ, List.getElem?_cons_zero]; rfl) (fun K hK => ?_) AllReadyH.nil
    have hC1 := fSame_eq y.la y.n y.k y.g Az my cz y.l y.la y.n y.k y.g Ay my cy y.l wd (hSz.below hHeld) (sy.below hHeld) rfl
    go_simp
    refine hC1.mono ?_
    rintro e w14 ⟨rfl, b14⟩
    have b15 := hHeld.trans (b14.mono hHeld.size)
    go_wp2_with fail
    refine hK.out _ _ (b15) (fun hHeld => ?_)
    clear hK K
    try dsimp only at hHeld
    try simp only [Act.put, List.setIfInBounds_toArray, List.set_cons_zero, List.set_cons_succ]
    refine wpAnyH_take (i := 19) (v := ?_) (by simp only [List.getElem?_toArray, List.getElem?_cons_succ, List.getElem?_cons_zero]; rfl) (by kernel_rfl) (by kernel_rfl) (by kernel_rfl) (by intro _ _ _ h; exact h) (Or.inl ⟨by rfl, ?_⟩) hHeld ?_
    rotate_left 1
    · intro wq hSw
      try dsimp only at hSw
      go_simp
      try (with_reducible rfl)
    try simp only [Act.put, List.setIfInBounds_toArray, List.set_cons_zero, List.set_cons_succ]
    refine wpAnyH_take (i := 20) (v := ?_) (by simp only [List.getElem?_toArray, List.getElem?_cons_succ, List.getElem?_cons_zero]; rfl) (by kernel_rfl) (by kernel_rfl) (by kernel_rfl) (by intro _ _ _ h; exact h) (Or.inl ⟨by rfl, ?_⟩) hHeld ?_
    rotate_left 1
    · intro wq hSw
      try dsimp only at hSw
      go_simp
      try (with_reducible rfl)
    try simp only [Act.put, List.setIfInBounds_toArray, List.set_cons_zero, List.set_cons_succ]
    refine wpAnyH_done (by kernel_rfl) ?_ _
    go_wp2
    go_ret
    exact ⟨rfl, bb.trans (hHeld.mono bb.size)⟩
theorem ExtmapHides_walk (a0 : Int) (a1 : Option Addr) (len1 cap1 : Nat) (a2_0 : Int) (a2_1 : Int) (a2_2 : Int) (a2_3 : Int) (a2_4 : Option Addr) (len2_4 cap2_4 : Nat) (z2_4 : List Int) (a3_0 : Int) (a3_1 : Int) (a3_2 : Int) (a3_3 : Int) (a3_4 : Option Addr) (len3_4 cap3_4 : Nat) (z3_4 : List Int) (w : World) (w0 : (Lit.int .i64 a0).wf = true) (w1 : IsSts [.num .i64, .num .i64, .num .i64, .num .i64, .row .u8] w a1 len1 cap1) (w2_0 : (Lit.int .i64 a2_0).wf = true) (w2_1 : (Lit.int .i64 a2_1).wf = true) (w2_2 : (Lit.int .i64 a2_2).wf = true) (w2_3 : (Lit.int .i64 a2_3).wf = true) (w2_4 : IsRow .u8 w a2_4 len2_4 cap2_4 z2_4) (w3_0 : (Lit.int .i64 a3_0).wf = true) (w3_1 : (Lit.int .i64 a3_1).wf = true) (w3_2 : (Lit.int .i64 a3_2).wf = true) (w3_3 : (Lit.int .i64 a3_3).wf = true) (w3_4 : IsRow .u8 w a3_4 len3_4 cap3_4 z3_4) :
    Calls Try.prog 7 #[.int .i64 a0, .slice a1 len1 cap1, .agg #[.int .i64 a2_0, .int .i64 a2_1, .int .i64 a2_2, .int .i64 a2_3, .slice a2_4 len2_4 cap2_4], .agg #[.int .i64 a3_0, .int .i64 a3_1, .int .i64 a3_2, .int .i64 a3_3, .slice a3_4 len3_4 cap3_4]] w (AwakePost w) := by
  obtain ⟨xs, hla, h⟩ := exts_of_sts w1
  obtain ⟨l1, h1⟩ := w2_4.bytes
  obtain ⟨l2, h2⟩ := w3_4.bytes
  exact hides_core a0 xs a1 len1 cap1 ⟨a2_0, a2_1, a2_2, a2_3, l1⟩ a2_4 len2_4 cap2_4 ⟨a3_0, a3_1, a3_2, a3_3, l2⟩ a3_4 len3_4 cap3_4 w h hla h1.len8 h2.len8 h1 h2 (ext_wf w2_0) (ext_wf w3_0)
end Go.Proofs.Ytefodkkkbjgbiaa
