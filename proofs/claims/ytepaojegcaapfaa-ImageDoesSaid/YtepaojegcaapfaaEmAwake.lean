/-
  The calls at every statement's head of stage 8 answer as the document says (written by gen_emawake.py).
-/
import Derived.Test.YtepaojegcaapfaaEm8
import Derived.Test.YtepaojegcaapfaaEm3
import Derived.Test.YtepaojegcaapfaaExtFew
namespace Go.Wag
open Go.RowKit
set_option linter.unusedVariables false
def five (x : Xp) : List Value := [.int .i64 x.la, .int .i64 x.n, .int .i64 x.k, .int .i64 x.g, .slice none 0 0]
def fives (xs : List Xp) : List Value := xs.flatMap five
theorem fives_at : ∀ (xs : List Xp) (i : Nat) (x : Xp), xs[i]? = some x → ∀ (j : Nat) (v : Value), (five x)[j]? = some v → (fives xs)[i * 5 + j]? = some v
  | [], i, x, h, j, v, hj => by simp at h
  | y :: xs, 0, x, h, j, v, hj => by
    cases h
    have hl := (List.getElem?_eq_some_iff.1 hj).1
    show (five y ++ fives xs)[0 * 5 + j]? = some v
    rw [Nat.zero_mul, Nat.zero_add, List.getElem?_append_left hl]
    exact hj
  | y :: xs, i + 1, x, h, j, v, hj => by
    have h5 : (five y).length = 5 := rfl
    show (five y ++ fives xs)[(i + 1) * 5 + j]? = some v
    rw [List.getElem?_append_right (by omega), h5, show (i + 1) * 5 + j - 5 = i * 5 + j by omega]
    exact fives_at xs i x h j v hj
/-- A slice of extents without data that was just laid. -/
theorem rs_lit {w : World} {g : Nat} {t : TypeId} (xs : List Xp) (n : Nat) (hn : xs.length = n) (hm : n ≤ 1000) (hx : ∀ x ∈ xs, x.l = []) (h : Blk w g (fives xs).toArray t) : Rs extE (fun _ => True) w (some ⟨g, 0, none⟩) n n xs := by
  refine ⟨hn, Nat.le_refl _, by omega, fun _ => ⟨g, 0, rfl, trivial, h.lt, fun i x hi => ?_⟩⟩
  have hl := hx x (List.mem_of_getElem? hi)
  refine ⟨five x, ⟨none, 0, by rw [hl]; rfl, by rw [hl]; exact Sl.nil _, fun h0 ad e => by cases e⟩, fun j v hj => ?_⟩
  have e5 : extE.k = 5 := rfl
  rw [h.cell, Nat.zero_add, e5, List.getElem?_toArray]
  exact fives_at xs i x hi j v hj
theorem hole_la (a b k g : Int) (ha : a ≤ 9223372036854775807) : ∀ x ∈ [(⟨a, b, k, g, []⟩ : Xp)], x.la ≤ 9223372036854775807 := fun x hx => by rw [List.mem_singleton.1 hx]; exact ha
theorem map_la {b : Int} {l : List Xp} (h : mapB b l = true) : ∀ x ∈ l, x.la ≤ 9223372036854775807 := fun x hx => by
  have := Xp.all (mrun_ok ((mapB_iff _ _).1 h).2.2.1 x hx)
  omega
theorem aw_l : mapB 8 [⟨0, 8, 0, 0, []⟩] = true := by decide
theorem aw_m : mapB 8 [⟨0, 2, 0, 0, []⟩, ⟨2, 3, 1, 1, []⟩, ⟨5, 3, 0, 0, []⟩] = true := by decide
theorem aw_m7 : mapB 7 [⟨0, 2, 0, 0, []⟩, ⟨2, 3, 1, 1, []⟩, ⟨5, 3, 0, 0, []⟩] = false := by decide
theorem aw_n : mapB 8 [] = false := by decide
theorem aw_f1 : mfit 8 ⟨2, 3, 1, 1, []⟩ = true := by decide
theorem aw_f2 : mfit 8 ⟨6, 3, 0, 0, []⟩ = false := by decide
theorem aw_put : mput 8 [⟨0, 8, 0, 0, []⟩] ⟨2, 3, 1, 1, []⟩ = [⟨0, 2, 0, 0, []⟩, ⟨2, 3, 1, 1, []⟩, ⟨5, 3, 0, 0, []⟩] := by rfl
theorem aw_since : msince [⟨0, 2, 0, 0, []⟩, ⟨2, 3, 1, 1, []⟩, ⟨5, 3, 0, 0, []⟩] 0 = [⟨2, 3, 1, 1, []⟩] := by rfl
theorem aw_range : mparts [⟨0, 2, 0, 0, []⟩, ⟨2, 3, 1, 1, []⟩, ⟨5, 3, 0, 0, []⟩] 4 2 = [⟨4, 1, 1, 1, []⟩, ⟨5, 1, 0, 0, []⟩] := by rfl
theorem aw_lay : mlays 8 [⟨0, 2, 0, 0, []⟩, ⟨2, 3, 1, 1, []⟩, ⟨5, 3, 0, 0, []⟩] [⟨2, 3, 0, 0, []⟩] = some [⟨0, 8, 0, 0, []⟩] := by rfl
theorem aw_many : mmany [⟨0, 2, 0, 0, []⟩, ⟨2, 3, 1, 1, []⟩, ⟨5, 3, 0, 0, []⟩] 1 = 3 := by decide
end Go.Wag
namespace Go.Proofs.Ytepaojegcaapfaa
open Go.RowKit Go.Wag
set_option linter.unusedVariables false
set_option linter.unusedSimpArgs false
set_option maxRecDepth 20000
theorem LErr.at {P : Program} {f : FuncId} {args : Array Value} {w : World} {ys zs : List Xp} {er er' : Int} (h : Calls P f args w (LErr w ys er)) (hy : ys = zs) (he : er = er') : Calls P f args w (LErr w zs er') := by
  subst hy he
  exact h
set_option maxRecDepth 100000 in
set_option maxHeartbeats 8000000 in
theorem awake8_any (w : World) : Calls Try.prog 19 #[] w (AwakePost w) := by
  have bb := Below.refl w.heap.size w
  go_enter Try.func19, Try.ntmps19
  go_wp2_with fail
  have hC0 := LErr.at (zs := [⟨0, 8, 0, 0, []⟩]) (er' := 0) (mNew_any 8 w) (if_pos (by decide)) (if_pos (by decide))
  have hC := hC0
  refine hC.mono ?_
  clear hC
  rintro e w1 ⟨A1, n1, c1, hn1, rfl, R1, b1⟩
  replace bb := bb.trans (b1.mono bb.size)
  obtain rfl : 1 = n1 := hn1.out
  try clear hC0
  go_wp2_with fail
  have hC0 := LErr.at (zs := []) (er' := 81) (mNew_any 65 w1) (if_neg (by decide)) (if_neg (by decide))
  have hC := hC0
  refine hC.mono ?_
  clear hC
  rintro e w2 ⟨A2, n2, c2, hn2, rfl, R2, b2⟩
  replace R1 := R1.below b2
  replace bb := bb.trans (b2.mono bb.size)
  obtain rfl : 0 = n2 := hn2.out
  clear R2
  try clear hC0
  go_wp2_with fail
  have hC1 := mPut_any 8 [⟨0, 8, 0, 0, []⟩] A1 1 c1 ⟨2, 3, 1, 1, []⟩ none 0 0 w2 R1 (map_la aw_l) (by omega) rfl (Sl.nil _) (by decide)
  rw [if_neg (by rw [aw_l]; decide), if_pos aw_f1] at hC1
  have hC0 := LErr.at (zs := [⟨0, 2, 0, 0, []⟩, ⟨2, 3, 1, 1, []⟩, ⟨5, 3, 0, 0, []⟩]) (er' := 0) hC1 aw_put rfl
  have hC := hC0
  refine hC.mono ?_
  clear hC
  rintro e w3 ⟨A3, n3, c3, hn3, rfl, R3, b3⟩
  replace R1 := R1.below b3
  replace bb := bb.trans (b3.mono bb.size)
  obtain rfl : 3 = n3 := hn3.out
  try clear hC0
  try clear hC1
  go_wp2_with fail
  have hC1 := mPut_any 8 [⟨0, 8, 0, 0, []⟩] A1 1 c1 ⟨6, 3, 0, 0, []⟩ none 0 0 w3 R1 (map_la aw_l) (by omega) rfl (Sl.nil _) (by decide)
  rw [if_neg (by rw [aw_l]; decide), if_neg (by rw [aw_f2]; decide)] at hC1
  have hC0 := LErr.at (zs := [⟨0, 8, 0, 0, []⟩]) (er' := 81) hC1 rfl rfl
  have hC := hC0
  refine hC.mono ?_
  clear hC
  rintro e w4 ⟨A4, n4, c4, hn4, rfl, R4, b4⟩
  replace R1 := R1.below b4
  replace R3 := R3.below b4
  replace bb := bb.trans (b4.mono bb.size)
  obtain rfl : 1 = n4 := hn4.out
  clear R4
  try clear hC0
  try clear hC1
  go_wp2_with fail
  have hC1 := mPut_any 8 [] none 0 0 ⟨0, 1, 0, 0, []⟩ none 0 0 w4 (Rs.nil extE (fun _ => True) _) (fun x hx => by cases hx) (by omega) rfl (Sl.nil _) (by decide)
  rw [if_pos aw_n] at hC1
  have hC0 := LErr.at (zs := []) (er' := 80) hC1 rfl rfl
  have hC := hC0
  refine hC.mono ?_
  clear hC
  rintro e w5 ⟨A5, n5, c5, hn5, rfl, R5, b5⟩
  replace R1 := R1.below b5
  replace R3 := R3.below b5
  replace bb := bb.trans (b5.mono bb.size)
  obtain rfl : 0 = n5 := hn5.out
  clear R5
  try clear hC0
  try clear hC1
  go_wp2_with fail
  have hC1 := mSince_any 8 [⟨0, 2, 0, 0, []⟩, ⟨2, 3, 1, 1, []⟩, ⟨5, 3, 0, 0, []⟩] A3 3 c3 0 w5 R3 (map_la aw_m) (by omega)
  rw [if_neg (by rw [aw_m]; decide)] at hC1
  have hC0 := LErr.at (zs := [⟨2, 3, 1, 1, []⟩]) (er' := 0) hC1 aw_since rfl
  have hC := hC0
  refine hC.mono ?_
  clear hC
  rintro e w6 ⟨A6, n6, c6, hn6, rfl, R6, b6⟩
  replace R1 := R1.below b6
  replace R3 := R3.below b6
  replace bb := bb.trans (b6.mono bb.size)
  obtain rfl : 1 = n6 := hn6.out
  try clear hC0
  try clear hC1
  go_wp2_with fail
  have hC1 := mRange_any 8 [⟨0, 2, 0, 0, []⟩, ⟨2, 3, 1, 1, []⟩, ⟨5, 3, 0, 0, []⟩] A3 3 c3 4 2 w6 (by decide) R3 (map_la aw_m) (by omega)
  rw [if_neg (by rw [aw_m]; decide), if_pos (by decide)] at hC1
  have hC0 := LErr.at (zs := [⟨4, 1, 1, 1, []⟩, ⟨5, 1, 0, 0, []⟩]) (er' := 0) hC1 aw_range rfl
  have hC := hC0
  refine hC.mono ?_
  clear hC
  rintro e w7 ⟨A7, n7, c7, hn7, rfl, R7, b7⟩
  replace R1 := R1.below b7
  replace R3 := R3.below b7
  replace R6 := R6.below b7
  replace bb := bb.trans (b7.mono bb.size)
  obtain rfl : 2 = n7 := hn7.out
  try clear hC0
  try clear hC1
  replace R1 := R1.alloc (.cells #[.int .i64 2, .int .i64 3, .int .i64 0, .int .i64 0, .slice none 0 0] 38)
  replace R3 := R3.alloc (.cells #[.int .i64 2, .int .i64 3, .int .i64 0, .int .i64 0, .slice none 0 0] 38)
  replace R6 := R6.alloc (.cells #[.int .i64 2, .int .i64 3, .int .i64 0, .int .i64 0, .slice none 0 0] 38)
  replace R7 := R7.alloc (.cells #[.int .i64 2, .int .i64 3, .int .i64 0, .int .i64 0, .slice none 0 0] 38)
  replace bb := bb.alloc bb.size (.cells #[.int .i64 2, .int .i64 3, .int .i64 0, .int .i64 0, .slice none 0 0] 38)
  have B8 := Blk.new w7 #[.int .i64 2, .int .i64 3, .int .i64 0, .int .i64 0, .slice none 0 0] 38
  go_wp2_with fail
  generalize (w7.alloc (.cells #[.int .i64 2, .int .i64 3, .int .i64 0, .int .i64 0, .slice none 0 0] 38)) = wa at *
  have hC1 := mLay_any 8 [⟨0, 2, 0, 0, []⟩, ⟨2, 3, 1, 1, []⟩, ⟨5, 3, 0, 0, []⟩] A3 3 c3 [⟨2, 3, 0, 0, []⟩] _ 1 1 wa R3 (map_la aw_m) (by omega) (rs_lit [⟨2, 3, 0, 0, []⟩] 1 rfl (by decide) (fun x hx => by rw [List.mem_singleton.1 hx]) B8) (hole_la 2 3 0 0 (by decide))
  rw [if_neg (by rw [aw_m]; decide), aw_lay] at hC1
  have hC0 := LErr.at (zs := [⟨0, 8, 0, 0, []⟩]) (er' := 0) hC1 rfl rfl
  have hC := hC0
  refine hC.mono ?_
  clear hC
  rintro e w8 ⟨A8, n8, c8, hn8, rfl, R8, b8⟩
  replace R1 := R1.below b8
  replace R3 := R3.below b8
  replace R6 := R6.below b8
  replace R7 := R7.below b8
  replace B8 := B8.under b8
  replace bb := bb.trans (b8.mono bb.size)
  obtain rfl : 1 = n8 := hn8.out
  try clear hC0
  try clear hC1
  clear B8
  replace R1 := R1.alloc (.cells #[.int .i64 0, .int .i64 2, .int .i64 0, .int .i64 0, .slice none 0 0, .int .i64 2, .int .i64 3, .int .i64 1, .int .i64 1, .slice none 0 0, .int .i64 5, .int .i64 3, .int .i64 0, .int .i64 0, .slice none 0 0] 38)
  replace R3 := R3.alloc (.cells #[.int .i64 0, .int .i64 2, .int .i64 0, .int .i64 0, .slice none 0 0, .int .i64 2, .int .i64 3, .int .i64 1, .int .i64 1, .slice none 0 0, .int .i64 5, .int .i64 3, .int .i64 0, .int .i64 0, .slice none 0 0] 38)
  replace R6 := R6.alloc (.cells #[.int .i64 0, .int .i64 2, .int .i64 0, .int .i64 0, .slice none 0 0, .int .i64 2, .int .i64 3, .int .i64 1, .int .i64 1, .slice none 0 0, .int .i64 5, .int .i64 3, .int .i64 0, .int .i64 0, .slice none 0 0] 38)
  replace R7 := R7.alloc (.cells #[.int .i64 0, .int .i64 2, .int .i64 0, .int .i64 0, .slice none 0 0, .int .i64 2, .int .i64 3, .int .i64 1, .int .i64 1, .slice none 0 0, .int .i64 5, .int .i64 3, .int .i64 0, .int .i64 0, .slice none 0 0] 38)
  replace R8 := R8.alloc (.cells #[.int .i64 0, .int .i64 2, .int .i64 0, .int .i64 0, .slice none 0 0, .int .i64 2, .int .i64 3, .int .i64 1, .int .i64 1, .slice none 0 0, .int .i64 5, .int .i64 3, .int .i64 0, .int .i64 0, .slice none 0 0] 38)
  replace bb := bb.alloc bb.size (.cells #[.int .i64 0, .int .i64 2, .int .i64 0, .int .i64 0, .slice none 0 0, .int .i64 2, .int .i64 3, .int .i64 1, .int .i64 1, .slice none 0 0, .int .i64 5, .int .i64 3, .int .i64 0, .int .i64 0, .slice none 0 0] 38)
  have B9 := Blk.new w8 #[.int .i64 0, .int .i64 2, .int .i64 0, .int .i64 0, .slice none 0 0, .int .i64 2, .int .i64 3, .int .i64 1, .int .i64 1, .slice none 0 0, .int .i64 5, .int .i64 3, .int .i64 0, .int .i64 0, .slice none 0 0] 38
  go_wp2_with fail
  generalize (w8.alloc (.cells #[.int .i64 0, .int .i64 2, .int .i64 0, .int .i64 0, .slice none 0 0, .int .i64 2, .int .i64 3, .int .i64 1, .int .i64 1, .slice none 0 0, .int .i64 5, .int .i64 3, .int .i64 0, .int .i64 0, .slice none 0 0] 38)) = wb at *
  have hR := rs_lit [⟨0, 2, 0, 0, []⟩, ⟨2, 3, 1, 1, []⟩, ⟨5, 3, 0, 0, []⟩] 3 rfl (by decide) (by simp) B9
  have hC := fAll_any [⟨0, 2, 0, 0, []⟩, ⟨2, 3, 1, 1, []⟩, ⟨5, 3, 0, 0, []⟩] A3 3 c3 _ 3 wb R3 hR
  refine hC.mono ?_
  clear hC
  rintro e w9 ⟨rfl, b9⟩
  replace R1 := R1.below b9
  replace R3 := R3.below b9
  replace R6 := R6.below b9
  replace R7 := R7.below b9
  replace R8 := R8.below b9
  replace B9 := B9.under b9
  replace bb := bb.trans (b9.mono bb.size)
  clear hR B9
  replace R1 := R1.alloc (.cells #[.int .i64 2, .int .i64 3, .int .i64 1, .int .i64 1, .slice none 0 0] 38)
  replace R3 := R3.alloc (.cells #[.int .i64 2, .int .i64 3, .int .i64 1, .int .i64 1, .slice none 0 0] 38)
  replace R6 := R6.alloc (.cells #[.int .i64 2, .int .i64 3, .int .i64 1, .int .i64 1, .slice none 0 0] 38)
  replace R7 := R7.alloc (.cells #[.int .i64 2, .int .i64 3, .int .i64 1, .int .i64 1, .slice none 0 0] 38)
  replace R8 := R8.alloc (.cells #[.int .i64 2, .int .i64 3, .int .i64 1, .int .i64 1, .slice none 0 0] 38)
  replace bb := bb.alloc bb.size (.cells #[.int .i64 2, .int .i64 3, .int .i64 1, .int .i64 1, .slice none 0 0] 38)
  have B10 := Blk.new w9 #[.int .i64 2, .int .i64 3, .int .i64 1, .int .i64 1, .slice none 0 0] 38
  go_wp2_with fail
  generalize (w9.alloc (.cells #[.int .i64 2, .int .i64 3, .int .i64 1, .int .i64 1, .slice none 0 0] 38)) = wc at *
  have hR := rs_lit [⟨2, 3, 1, 1, []⟩] 1 rfl (by decide) (by simp) B10
  have hC := fAll_any [⟨2, 3, 1, 1, []⟩] A6 1 c6 _ 1 wc R6 hR
  refine hC.mono ?_
  clear hC
  rintro e w10 ⟨rfl, b10⟩
  replace R1 := R1.below b10
  replace R3 := R3.below b10
  replace R6 := R6.below b10
  replace R7 := R7.below b10
  replace R8 := R8.below b10
  replace B10 := B10.under b10
  replace bb := bb.trans (b10.mono bb.size)
  clear hR B10
  replace R1 := R1.alloc (.cells #[.int .i64 4, .int .i64 1, .int .i64 1, .int .i64 1, .slice none 0 0, .int .i64 5, .int .i64 1, .int .i64 0, .int .i64 0, .slice none 0 0] 38)
  replace R3 := R3.alloc (.cells #[.int .i64 4, .int .i64 1, .int .i64 1, .int .i64 1, .slice none 0 0, .int .i64 5, .int .i64 1, .int .i64 0, .int .i64 0, .slice none 0 0] 38)
  replace R6 := R6.alloc (.cells #[.int .i64 4, .int .i64 1, .int .i64 1, .int .i64 1, .slice none 0 0, .int .i64 5, .int .i64 1, .int .i64 0, .int .i64 0, .slice none 0 0] 38)
  replace R7 := R7.alloc (.cells #[.int .i64 4, .int .i64 1, .int .i64 1, .int .i64 1, .slice none 0 0, .int .i64 5, .int .i64 1, .int .i64 0, .int .i64 0, .slice none 0 0] 38)
  replace R8 := R8.alloc (.cells #[.int .i64 4, .int .i64 1, .int .i64 1, .int .i64 1, .slice none 0 0, .int .i64 5, .int .i64 1, .int .i64 0, .int .i64 0, .slice none 0 0] 38)
  replace bb := bb.alloc bb.size (.cells #[.int .i64 4, .int .i64 1, .int .i64 1, .int .i64 1, .slice none 0 0, .int .i64 5, .int .i64 1, .int .i64 0, .int .i64 0, .slice none 0 0] 38)
  have B11 := Blk.new w10 #[.int .i64 4, .int .i64 1, .int .i64 1, .int .i64 1, .slice none 0 0, .int .i64 5, .int .i64 1, .int .i64 0, .int .i64 0, .slice none 0 0] 38
  go_wp2_with fail
  generalize (w10.alloc (.cells #[.int .i64 4, .int .i64 1, .int .i64 1, .int .i64 1, .slice none 0 0, .int .i64 5, .int .i64 1, .int .i64 0, .int .i64 0, .slice none 0 0] 38)) = wd at *
  have hR := rs_lit [⟨4, 1, 1, 1, []⟩, ⟨5, 1, 0, 0, []⟩] 2 rfl (by decide) (by simp) B11
  have hC := fAll_any [⟨4, 1, 1, 1, []⟩, ⟨5, 1, 0, 0, []⟩] A7 2 c7 _ 2 wd R7 hR
  refine hC.mono ?_
  clear hC
  rintro e w11 ⟨rfl, b11⟩
  replace R1 := R1.below b11
  replace R3 := R3.below b11
  replace R6 := R6.below b11
  replace R7 := R7.below b11
  replace R8 := R8.below b11
  replace B11 := B11.under b11
  replace bb := bb.trans (b11.mono bb.size)
  clear hR B11
  go_wp2_with fail
  have hC := fAll_any [⟨0, 8, 0, 0, []⟩] A8 1 c8 A1 c1 w11 R8 R1
  refine hC.mono ?_
  clear hC
  rintro e w12 ⟨rfl, b12⟩
  replace R1 := R1.below b12
  replace R3 := R3.below b12
  replace R6 := R6.below b12
  replace R7 := R7.below b12
  replace R8 := R8.below b12
  replace bb := bb.trans (b12.mono bb.size)
  go_wp2_with fail
  have hC := mCheck_any 8 [⟨0, 2, 0, 0, []⟩, ⟨2, 3, 1, 1, []⟩, ⟨5, 3, 0, 0, []⟩] A3 3 c3 w12 R3 (map_la aw_m) (by omega)
  refine hC.mono ?_
  clear hC
  rintro e w13 ⟨rfl, b13⟩
  replace R1 := R1.below b13
  replace R3 := R3.below b13
  replace R6 := R6.below b13
  replace R7 := R7.below b13
  replace R8 := R8.below b13
  replace bb := bb.trans (b13.mono bb.size)
  rw [aw_m]
  go_wp2_with fail
  have hC := mCheck_any 7 [⟨0, 2, 0, 0, []⟩, ⟨2, 3, 1, 1, []⟩, ⟨5, 3, 0, 0, []⟩] A3 3 c3 w13 R3 (map_la aw_m) (by omega)
  refine hC.mono ?_
  clear hC
  rintro e w14 ⟨rfl, b14⟩
  replace R1 := R1.below b14
  replace R3 := R3.below b14
  replace R6 := R6.below b14
  replace R7 := R7.below b14
  replace R8 := R8.below b14
  replace bb := bb.trans (b14.mono bb.size)
  rw [aw_m7]
  go_wp2_with fail
  have hC := mMany_any [⟨0, 2, 0, 0, []⟩, ⟨2, 3, 1, 1, []⟩, ⟨5, 3, 0, 0, []⟩] A3 3 c3 1 w14 R3 (map_la aw_m) (by omega)
  refine hC.mono ?_
  clear hC
  rintro e w15 ⟨rfl, b15⟩
  replace R1 := R1.below b15
  replace R3 := R3.below b15
  replace R6 := R6.below b15
  replace R7 := R7.below b15
  replace R8 := R8.below b15
  replace bb := bb.trans (b15.mono bb.size)
  rw [aw_many]
  go_wp2
  go_ret
  exact ⟨rfl, bb⟩
end Go.Proofs.Ytepaojegcaapfaa
