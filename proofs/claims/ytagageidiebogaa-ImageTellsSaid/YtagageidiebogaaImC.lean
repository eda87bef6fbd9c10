/-
  Merged: XImAwake XImPure XImArgs.
-/
import Derived.Test.YtagageidiebogaaImB
import Derived.Test.YtagageidiebogaaImA
import Derived.Test.YtagageidiebogaaSteps
import Derived.Test.YtagageidiebogaaDevArgs
/-
  awake of waggonerlaw09 (written by gen_imawake.py).
-/
namespace Go.Wag
open Go.RowKit
set_option linter.unusedVariables false
def aL : List Cp := List.replicate 8 c0p
def aA : List Cp := setsF aL 2 (fun _ => ⟨1, 1, z32⟩) 3
def aM : List Xp := [⟨0, 2, 0, 0, []⟩, ⟨2, 3, 1, 1, []⟩, ⟨5, 3, 0, 0, []⟩]
def b32 : List UInt8 := List.replicate 31 0 ++ [5]
def b33 : List UInt8 := List.replicate 32 0 ++ [5]
def b64 : List UInt8 := List.replicate 63 0 ++ [5]
def aC : List Cp := setsF aL 7 (cellB 4 b32) 1
theorem aw9_f1 : doneL aL (fillMay aL 2 3 1 1) (fillR aL 2 3 1 1) = aA := by kernel_rfl
theorem aw9_f2 : doneE aL (fillMay aL 2 3 1 1) = 0 := by kernel_rfl
theorem aw9_m1 : (if ichk aA = true then imap aA else []) = aM := by kernel_rfl
theorem aw9_m2 : (if ichk aA = true then 0 else 90 : Int) = 0 := by kernel_rfl
theorem aw9_o1 : (if mapB 8 aM = true then iof aM else []) = aA := by kernel_rfl
theorem aw9_o2 : (if mapB 8 aM = true then 0 else 80 : Int) = 0 := by kernel_rfl
theorem aw9_w1 : doneL aL (wrMay aL 7 4 b32) (wrR aL 7 4 b32) = aC := by kernel_rfl
theorem aw9_w2 : doneE aL (wrMay aL 7 4 b32) = 0 := by kernel_rfl
theorem aw9_r1 : rdR aC 6 2 = b64 := by kernel_rfl
theorem aw9_r2 : doneE aC (hasF aC.length 6 2) = 0 := by kernel_rfl
theorem aw9_x1 : doneL aL (wrMay aL 7 4 b33) (wrR aL 7 4 b33) = aL := by kernel_rfl
theorem aw9_x2 : doneE aL (wrMay aL 7 4 b33) = 81 := by kernel_rfl
theorem aw9_n1 : doneL [] (fillMay [] 0 1 1 1) (fillR [] 0 1 1 1) = [] := by kernel_rfl
theorem aw9_n2 : doneE [] (fillMay [] 0 1 1 1) = 90 := by kernel_rfl
theorem aw9_c1 : ichk aC = true := by kernel_rfl
theorem aw9_c2 : ichk [] = false := by kernel_rfl
theorem aw9_a1 : alikeF aL aL = true := by kernel_rfl
theorem aw9_a2 : alikeF aL aA = false := by kernel_rfl
theorem aM_la : ∀ x ∈ aM, x.la ≤ 9223372036854775807 := by
  intro x hx
  simp only [aM, List.mem_cons, List.not_mem_nil, or_false] at hx
  rcases hx with rfl | rfl | rfl <;> decide
end Go.Wag
namespace Go.Proofs.Ytagageidiebogaa
open Go.RowKit Go.Wag
set_option linter.unusedVariables false
set_option linter.unusedSimpArgs false
set_option maxRecDepth 20000
theorem CErr.at {P : Program} {f : FuncId} {args : Array Value} {w : World} {ys zs : List Cp} {er er' : Int} (h : Calls P f args w (CErr w ys er)) (hz : ys = zs) (he : er = er') : Calls P f args w (CErr w zs er') := by
  subst hz he
  exact h
theorem BErr.at {P : Program} {f : FuncId} {args : Array Value} {w : World} {ys zs : List UInt8} {er er' : Int} (h : Calls P f args w (BErr w ys er)) (hz : ys = zs) (he : er = er') : Calls P f args w (BErr w zs er') := by
  subst hz he
  exact h
set_option maxRecDepth 100000 in
set_option maxHeartbeats 16000000 in
theorem awake9_any (w : World) : Calls Try.prog 4 #[] w (AwakePost w) := by
  have hmk : ∀ W : World, (Instr.makeSlice 22 (.int .i64 8) (.int .i64 8)).run Try.prog W = .ok (.slice (some ⟨W.heap.size, 0, none⟩) 8 8) (W.alloc (.cells (madeCells (cpA c0p) (8 * 34)) 46)) := fun W => run_mkC 8 (by decide) W
  have hR0 := mkC_ro 8 w
  have bb := (Below.refl w.heap.size w).alloc (Nat.le_refl _) (.cells (madeCells (cpA c0p) (8 * 34)) 46)
  go_enter Try.func4, Try.ntmps4
  generalize hZ : madeCells (cpA c0p) (8 * 34) = Z at *
  go_upto_region 2 with (fail)
  clear hmk hZ
  generalize w.alloc (.cells Z 46) = w1 at *
  obtain ⟨gl, hgl⟩ : ∃ k, w.heap.size = k := ⟨_, rfl⟩
  simp only [hgl] at hR0 ⊢
  have RL : Rs cpE (fun z => gl ≤ z) w1 (some ⟨gl, 0, none⟩) 8 8 aL := hR0.toRsC rfl (Nat.le_refl _) (by decide) (Nat.le_refl _)
  clear hR0 hgl
  have hC := CErr.at (iFill_any aL (some ⟨gl, 0, none⟩) 8 8 2 3 1 1 w1 RL (by decide) (by decide)) aw9_f1 aw9_f2
  go_wp2_with fail
  refine hC.mono ?_
  clear hC
  rintro e w2 ⟨A2, n2, c2, h2, rfl, R2, b2⟩
  replace RL := RL.below b2
  replace bb := bb.trans (b2.mono bb.size)
  obtain rfl : 8 = n2 := h2.out
  clear h2
  have hC := LErr.at (iMap_any aA A2 8 c2 w2 R2) aw9_m1 aw9_m2
  go_wp2_with fail
  refine hC.mono ?_
  clear hC
  rintro e w3 ⟨A3, n3, c3, h3, rfl, R3, b3⟩
  replace RL := RL.below b3
  replace R2 := R2.below b3
  replace bb := bb.trans (b3.mono bb.size)
  obtain rfl : 3 = n3 := h3.out
  clear h3
  have hC := CErr.at (iOf_any 8 aM A3 3 c3 w3 R3 aM_la (by decide)) aw9_o1 aw9_o2
  go_wp2_with fail
  refine hC.mono ?_
  clear hC
  rintro e w4 ⟨A4, n4, c4, h4, rfl, R4, b4⟩
  replace RL := RL.below b4
  replace R2 := R2.below b4
  replace R3 := R3.below b4
  replace bb := bb.trans (b4.mono bb.size)
  obtain rfl : 8 = n4 := h4.out
  clear h4
  have S5 : Sl (w4.alloc (.cells #[.int .u8 0, .int .u8 0, .int .u8 0, .int .u8 0, .int .u8 0, .int .u8 0, .int .u8 0, .int .u8 0, .int .u8 0, .int .u8 0, .int .u8 0, .int .u8 0, .int .u8 0, .int .u8 0, .int .u8 0, .int .u8 0, .int .u8 0, .int .u8 0, .int .u8 0, .int .u8 0, .int .u8 0, .int .u8 0, .int .u8 0, .int .u8 0, .int .u8 0, .int .u8 0, .int .u8 0, .int .u8 0, .int .u8 0, .int .u8 0, .int .u8 0, .int .u8 5] 5)) (some ⟨w4.heap.size, 0, none⟩) 32 32 (b32.map v8) := sl8 w4 b32 (by decide)
  replace RL := RL.alloc (.cells #[.int .u8 0, .int .u8 0, .int .u8 0, .int .u8 0, .int .u8 0, .int .u8 0, .int .u8 0, .int .u8 0, .int .u8 0, .int .u8 0, .int .u8 0, .int .u8 0, .int .u8 0, .int .u8 0, .int .u8 0, .int .u8 0, .int .u8 0, .int .u8 0, .int .u8 0, .int .u8 0, .int .u8 0, .int .u8 0, .int .u8 0, .int .u8 0, .int .u8 0, .int .u8 0, .int .u8 0, .int .u8 0, .int .u8 0, .int .u8 0, .int .u8 0, .int .u8 5] 5)
  replace R2 := R2.alloc (.cells #[.int .u8 0, .int .u8 0, .int .u8 0, .int .u8 0, .int .u8 0, .int .u8 0, .int .u8 0, .int .u8 0, .int .u8 0, .int .u8 0, .int .u8 0, .int .u8 0, .int .u8 0, .int .u8 0, .int .u8 0, .int .u8 0, .int .u8 0, .int .u8 0, .int .u8 0, .int .u8 0, .int .u8 0, .int .u8 0, .int .u8 0, .int .u8 0, .int .u8 0, .int .u8 0, .int .u8 0, .int .u8 0, .int .u8 0, .int .u8 0, .int .u8 0, .int .u8 5] 5)
  replace R3 := R3.alloc (.cells #[.int .u8 0, .int .u8 0, .int .u8 0, .int .u8 0, .int .u8 0, .int .u8 0, .int .u8 0, .int .u8 0, .int .u8 0, .int .u8 0, .int .u8 0, .int .u8 0, .int .u8 0, .int .u8 0, .int .u8 0, .int .u8 0, .int .u8 0, .int .u8 0, .int .u8 0, .int .u8 0, .int .u8 0, .int .u8 0, .int .u8 0, .int .u8 0, .int .u8 0, .int .u8 0, .int .u8 0, .int .u8 0, .int .u8 0, .int .u8 0, .int .u8 0, .int .u8 5] 5)
  replace R4 := R4.alloc (.cells #[.int .u8 0, .int .u8 0, .int .u8 0, .int .u8 0, .int .u8 0, .int .u8 0, .int .u8 0, .int .u8 0, .int .u8 0, .int .u8 0, .int .u8 0, .int .u8 0, .int .u8 0, .int .u8 0, .int .u8 0, .int .u8 0, .int .u8 0, .int .u8 0, .int .u8 0, .int .u8 0, .int .u8 0, .int .u8 0, .int .u8 0, .int .u8 0, .int .u8 0, .int .u8 0, .int .u8 0, .int .u8 0, .int .u8 0, .int .u8 0, .int .u8 0, .int .u8 5] 5)
  replace bb := bb.alloc bb.size (.cells #[.int .u8 0, .int .u8 0, .int .u8 0, .int .u8 0, .int .u8 0, .int .u8 0, .int .u8 0, .int .u8 0, .int .u8 0, .int .u8 0, .int .u8 0, .int .u8 0, .int .u8 0, .int .u8 0, .int .u8 0, .int .u8 0, .int .u8 0, .int .u8 0, .int .u8 0, .int .u8 0, .int .u8 0, .int .u8 0, .int .u8 0, .int .u8 0, .int .u8 0, .int .u8 0, .int .u8 0, .int .u8 0, .int .u8 0, .int .u8 0, .int .u8 0, .int .u8 5] 5)
  go_wp2_with fail
  generalize w4.alloc (.cells #[.int .u8 0, .int .u8 0, .int .u8 0, .int .u8 0, .int .u8 0, .int .u8 0, .int .u8 0, .int .u8 0, .int .u8 0, .int .u8 0, .int .u8 0, .int .u8 0, .int .u8 0, .int .u8 0, .int .u8 0, .int .u8 0, .int .u8 0, .int .u8 0, .int .u8 0, .int .u8 0, .int .u8 0, .int .u8 0, .int .u8 0, .int .u8 0, .int .u8 0, .int .u8 0, .int .u8 0, .int .u8 0, .int .u8 0, .int .u8 0, .int .u8 0, .int .u8 5] 5) = w5 at *
  generalize w4.heap.size = gS5 at *
  have hC := CErr.at (iWrite_any aL (some ⟨gl, 0, none⟩) 8 8 7 4 _ 32 32 b32 w5 RL S5 (by decide) (by decide) (by decide)) aw9_w1 aw9_w2
  refine hC.mono ?_
  clear hC
  rintro e w6 ⟨A6, n6, c6, h6, rfl, R6, b6⟩
  replace RL := RL.below b6
  replace R2 := R2.below b6
  replace R3 := R3.below b6
  replace R4 := R4.below b6
  replace bb := bb.trans (b6.mono bb.size)
  obtain rfl : 8 = n6 := h6.out
  clear h6 S5
  have hC := BErr.at (iRead_any aC A6 8 c6 6 2 w6 R6 (by decide) (by decide)) aw9_r1 aw9_r2
  go_wp2_with fail
  refine hC.mono ?_
  clear hC
  rintro e w7 ⟨A7, n7, c7, h7, rfl, S7, _, b7⟩
  replace RL := RL.below b7
  replace R2 := R2.below b7
  replace R3 := R3.below b7
  replace R4 := R4.below b7
  replace R6 := R6.below b7
  replace bb := bb.trans (b7.mono bb.size)
  obtain rfl : 64 = n7 := h7.out
  clear h7
  have S8 : Sl (w7.alloc (.cells #[.int .u8 0, .int .u8 0, .int .u8 0, .int .u8 0, .int .u8 0, .int .u8 0, .int .u8 0, .int .u8 0, .int .u8 0, .int .u8 0, .int .u8 0, .int .u8 0, .int .u8 0, .int .u8 0, .int .u8 0, .int .u8 0, .int .u8 0, .int .u8 0, .int .u8 0, .int .u8 0, .int .u8 0, .int .u8 0, .int .u8 0, .int .u8 0, .int .u8 0, .int .u8 0, .int .u8 0, .int .u8 0, .int .u8 0, .int .u8 0, .int .u8 0, .int .u8 0, .int .u8 5] 5)) (some ⟨w7.heap.size, 0, none⟩) 33 33 (b33.map v8) := sl8 w7 b33 (by decide)
  replace RL := RL.alloc (.cells #[.int .u8 0, .int .u8 0, .int .u8 0, .int .u8 0, .int .u8 0, .int .u8 0, .int .u8 0, .int .u8 0, .int .u8 0, .int .u8 0, .int .u8 0, .int .u8 0, .int .u8 0, .int .u8 0, .int .u8 0, .int .u8 0, .int .u8 0, .int .u8 0, .int .u8 0, .int .u8 0, .int .u8 0, .int .u8 0, .int .u8 0, .int .u8 0, .int .u8 0, .int .u8 0, .int .u8 0, .int .u8 0, .int .u8 0, .int .u8 0, .int .u8 0, .int .u8 0, .int .u8 5] 5)
  replace R2 := R2.alloc (.cells #[.int .u8 0, .int .u8 0, .int .u8 0, .int .u8 0, .int .u8 0, .int .u8 0, .int .u8 0, .int .u8 0, .int .u8 0, .int .u8 0, .int .u8 0, .int .u8 0, .int .u8 0, .int .u8 0, .int .u8 0, .int .u8 0, .int .u8 0, .int .u8 0, .int .u8 0, .int .u8 0, .int .u8 0, .int .u8 0, .int .u8 0, .int .u8 0, .int .u8 0, .int .u8 0, .int .u8 0, .int .u8 0, .int .u8 0, .int .u8 0, .int .u8 0, .int .u8 0, .int .u8 5] 5)
  replace R3 := R3.alloc (.cells #[.int .u8 0, .int .u8 0, .int .u8 0, .int .u8 0, .int .u8 0, .int .u8 0, .int .u8 0, .int .u8 0, .int .u8 0, .int .u8 0, .int .u8 0, .int .u8 0, .int .u8 0, .int .u8 0, .int .u8 0, .int .u8 0, .int .u8 0, .int .u8 0, .int .u8 0, .int .u8 0, .int .u8 0, .int .u8 0, .int .u8 0, .int .u8 0, .int .u8 0, .int .u8 0, .int .u8 0, .int .u8 0, .int .u8 0, .int .u8 0, .int .u8 0, .int .u8 0, .int .u8 5] 5)
  replace R4 := R4.alloc (.cells #[.int .u8 0, .int .u8 0, .int .u8 0, .int .u8 0, .int .u8 0, .int .u8 0, .int .u8 0, .int .u8 0, .int .u8 0, .int .u8 0, .int .u8 0, .int .u8 0, .int .u8 0, .int .u8 0, .int .u8 0, .int .u8 0, .int .u8 0, .int .u8 0, .int .u8 0, .int .u8 0, .int .u8 0, .int .u8 0, .int .u8 0, .int .u8 0, .int .u8 0, .int .u8 0, .int .u8 0, .int .u8 0, .int .u8 0, .int .u8 0, .int .u8 0, .int .u8 0, .int .u8 5] 5)
  replace R6 := R6.alloc (.cells #[.int .u8 0, .int .u8 0, .int .u8 0, .int .u8 0, .int .u8 0, .int .u8 0, .int .u8 0, .int .u8 0, .int .u8 0, .int .u8 0, .int .u8 0, .int .u8 0, .int .u8 0, .int .u8 0, .int .u8 0, .int .u8 0, .int .u8 0, .int .u8 0, .int .u8 0, .int .u8 0, .int .u8 0, .int .u8 0, .int .u8 0, .int .u8 0, .int .u8 0, .int .u8 0, .int .u8 0, .int .u8 0, .int .u8 0, .int .u8 0, .int .u8 0, .int .u8 0, .int .u8 5] 5)
  replace S7 := S7.alloc (.cells #[.int .u8 0, .int .u8 0, .int .u8 0, .int .u8 0, .int .u8 0, .int .u8 0, .int .u8 0, .int .u8 0, .int .u8 0, .int .u8 0, .int .u8 0, .int .u8 0, .int .u8 0, .int .u8 0, .int .u8 0, .int .u8 0, .int .u8 0, .int .u8 0, .int .u8 0, .int .u8 0, .int .u8 0, .int .u8 0, .int .u8 0, .int .u8 0, .int .u8 0, .int .u8 0, .int .u8 0, .int .u8 0, .int .u8 0, .int .u8 0, .int .u8 0, .int .u8 0, .int .u8 5] 5)
  replace bb := bb.alloc bb.size (.cells #[.int .u8 0, .int .u8 0, .int .u8 0, .int .u8 0, .int .u8 0, .int .u8 0, .int .u8 0, .int .u8 0, .int .u8 0, .int .u8 0, .int .u8 0, .int .u8 0, .int .u8 0, .int .u8 0, .int .u8 0, .int .u8 0, .int .u8 0, .int .u8 0, .int .u8 0, .int .u8 0, .int .u8 0, .int .u8 0, .int .u8 0, .int .u8 0, .int .u8 0, .int .u8 0, .int .u8 0, .int .u8 0, .int .u8 0, .int .u8 0, .int .u8 0, .int .u8 0, .int .u8 5] 5)
  go_wp2_with fail
  generalize w7.alloc (.cells #[.int .u8 0, .int .u8 0, .int .u8 0, .int .u8 0, .int .u8 0, .int .u8 0, .int .u8 0, .int .u8 0, .int .u8 0, .int .u8 0, .int .u8 0, .int .u8 0, .int .u8 0, .int .u8 0, .int .u8 0, .int .u8 0, .int .u8 0, .int .u8 0, .int .u8 0, .int .u8 0, .int .u8 0, .int .u8 0, .int .u8 0, .int .u8 0, .int .u8 0, .int .u8 0, .int .u8 0, .int .u8 0, .int .u8 0, .int .u8 0, .int .u8 0, .int .u8 0, .int .u8 5] 5) = w8 at *
  generalize w7.heap.size = gS8 at *
  have hC := CErr.at (iWrite_any aL (some ⟨gl, 0, none⟩) 8 8 7 4 _ 33 33 b33 w8 RL S8 (by decide) (by decide) (by decide)) aw9_x1 aw9_x2
  refine hC.mono ?_
  clear hC
  rintro e w9 ⟨A9, n9, c9, h9, rfl, R9, b9⟩
  replace RL := RL.below b9
  replace R2 := R2.below b9
  replace R3 := R3.below b9
  replace R4 := R4.below b9
  replace R6 := R6.below b9
  replace S7 := S7.below b9
  replace bb := bb.trans (b9.mono bb.size)
  clear R9 h9 S8
  have hC := CErr.at (iFill_any [] none 0 0 0 1 1 1 w9 (Rs.nil cpE (fun _ => True) _) (by decide) (by decide)) aw9_n1 aw9_n2
  go_wp2_with fail
  refine hC.mono ?_
  clear hC
  rintro e w10 ⟨A10, n10, c10, h10, rfl, R10, b10⟩
  replace RL := RL.below b10
  replace R2 := R2.below b10
  replace R3 := R3.below b10
  replace R4 := R4.below b10
  replace R6 := R6.below b10
  replace S7 := S7.below b10
  replace bb := bb.trans (b10.mono bb.size)
  clear R10 h10
  have B9 := Blk.new w10 #[.int .i64 0, .int .i64 2, .int .i64 0, .int .i64 0, .slice none 0 0, .int .i64 2, .int .i64 3, .int .i64 1, .int .i64 1, .slice none 0 0, .int .i64 5, .int .i64 3, .int .i64 0, .int .i64 0, .slice none 0 0] 41
  replace RL := RL.alloc (.cells #[.int .i64 0, .int .i64 2, .int .i64 0, .int .i64 0, .slice none 0 0, .int .i64 2, .int .i64 3, .int .i64 1, .int .i64 1, .slice none 0 0, .int .i64 5, .int .i64 3, .int .i64 0, .int .i64 0, .slice none 0 0] 41)
  replace R2 := R2.alloc (.cells #[.int .i64 0, .int .i64 2, .int .i64 0, .int .i64 0, .slice none 0 0, .int .i64 2, .int .i64 3, .int .i64 1, .int .i64 1, .slice none 0 0, .int .i64 5, .int .i64 3, .int .i64 0, .int .i64 0, .slice none 0 0] 41)
  replace R3 := R3.alloc (.cells #[.int .i64 0, .int .i64 2, .int .i64 0, .int .i64 0, .slice none 0 0, .int .i64 2, .int .i64 3, .int .i64 1, .int .i64 1, .slice none 0 0, .int .i64 5, .int .i64 3, .int .i64 0, .int .i64 0, .slice none 0 0] 41)
  replace R4 := R4.alloc (.cells #[.int .i64 0, .int .i64 2, .int .i64 0, .int .i64 0, .slice none 0 0, .int .i64 2, .int .i64 3, .int .i64 1, .int .i64 1, .slice none 0 0, .int .i64 5, .int .i64 3, .int .i64 0, .int .i64 0, .slice none 0 0] 41)
  replace R6 := R6.alloc (.cells #[.int .i64 0, .int .i64 2, .int .i64 0, .int .i64 0, .slice none 0 0, .int .i64 2, .int .i64 3, .int .i64 1, .int .i64 1, .slice none 0 0, .int .i64 5, .int .i64 3, .int .i64 0, .int .i64 0, .slice none 0 0] 41)
  replace S7 := S7.alloc (.cells #[.int .i64 0, .int .i64 2, .int .i64 0, .int .i64 0, .slice none 0 0, .int .i64 2, .int .i64 3, .int .i64 1, .int .i64 1, .slice none 0 0, .int .i64 5, .int .i64 3, .int .i64 0, .int .i64 0, .slice none 0 0] 41)
  replace bb := bb.alloc bb.size (.cells #[.int .i64 0, .int .i64 2, .int .i64 0, .int .i64 0, .slice none 0 0, .int .i64 2, .int .i64 3, .int .i64 1, .int .i64 1, .slice none 0 0, .int .i64 5, .int .i64 3, .int .i64 0, .int .i64 0, .slice none 0 0] 41)
  go_wp2_with fail
  generalize w10.alloc (.cells #[.int .i64 0, .int .i64 2, .int .i64 0, .int .i64 0, .slice none 0 0, .int .i64 2, .int .i64 3, .int .i64 1, .int .i64 1, .slice none 0 0, .int .i64 5, .int .i64 3, .int .i64 0, .int .i64 0, .slice none 0 0] 41) = w11 at *
  generalize w10.heap.size = g11 at *
  have hR := rs_lit aM 3 rfl (by decide) (by simp [aM]) B9
  refine (fAll_any aM A3 3 c3 _ 3 w11 R3 hR).mono ?_
  clear hR B9
  rintro e w12 ⟨rfl, b12⟩
  replace RL := RL.below b12
  replace R2 := R2.below b12
  replace R3 := R3.below b12
  replace R4 := R4.below b12
  replace R6 := R6.below b12
  replace S7 := S7.below b12
  replace bb := bb.trans (b12.mono bb.size)
  have hC := cSame_any aA A2 8 c2 A4 c4 w12 R2 R4
  go_wp2_with fail
  refine hC.mono ?_
  clear hC
  rintro e w13 ⟨rfl, b13⟩
  replace RL := RL.below b13
  replace R2 := R2.below b13
  replace R3 := R3.below b13
  replace R4 := R4.below b13
  replace R6 := R6.below b13
  replace S7 := S7.below b13
  replace bb := bb.trans (b13.mono bb.size)
  have q1 := (str_of (S7.alloc (.cells #[.int .u8 0, .int .u8 0, .int .u8 0, .int .u8 0, .int .u8 0, .int .u8 0, .int .u8 0, .int .u8 0, .int .u8 0, .int .u8 0, .int .u8 0, .int .u8 0, .int .u8 0, .int .u8 0, .int .u8 0, .int .u8 0, .int .u8 0, .int .u8 0, .int .u8 0, .int .u8 0, .int .u8 0, .int .u8 0, .int .u8 0, .int .u8 0, .int .u8 0, .int .u8 0, .int .u8 0, .int .u8 0, .int .u8 0, .int .u8 0, .int .u8 0, .int .u8 0, .int .u8 0, .int .u8 0, .int .u8 0, .int .u8 0, .int .u8 0, .int .u8 0, .int .u8 0, .int .u8 0, .int .u8 0, .int .u8 0, .int .u8 0, .int .u8 0, .int .u8 0, .int .u8 0, .int .u8 0, .int .u8 0, .int .u8 0, .int .u8 0, .int .u8 0, .int .u8 0, .int .u8 0, .int .u8 0, .int .u8 0, .int .u8 0, .int .u8 0, .int .u8 0, .int .u8 0, .int .u8 0, .int .u8 0, .int .u8 0, .int .u8 0, .int .u8 5] 5)))
  have q1b := str_of S7
  have q2 : (convert 37 9 (.slice (some ⟨w13.heap.size, 0, none⟩) 64 64)).run Try.prog (w13.alloc (.cells #[.int .u8 0, .int .u8 0, .int .u8 0, .int .u8 0, .int .u8 0, .int .u8 0, .int .u8 0, .int .u8 0, .int .u8 0, .int .u8 0, .int .u8 0, .int .u8 0, .int .u8 0, .int .u8 0, .int .u8 0, .int .u8 0, .int .u8 0, .int .u8 0, .int .u8 0, .int .u8 0, .int .u8 0, .int .u8 0, .int .u8 0, .int .u8 0, .int .u8 0, .int .u8 0, .int .u8 0, .int .u8 0, .int .u8 0, .int .u8 0, .int .u8 0, .int .u8 0, .int .u8 0, .int .u8 0, .int .u8 0, .int .u8 0, .int .u8 0, .int .u8 0, .int .u8 0, .int .u8 0, .int .u8 0, .int .u8 0, .int .u8 0, .int .u8 0, .int .u8 0, .int .u8 0, .int .u8 0, .int .u8 0, .int .u8 0, .int .u8 0, .int .u8 0, .int .u8 0, .int .u8 0, .int .u8 0, .int .u8 0, .int .u8 0, .int .u8 0, .int .u8 0, .int .u8 0, .int .u8 0, .int .u8 0, .int .u8 0, .int .u8 0, .int .u8 5] 5)) = .ok (.string ⟨b64.toArray⟩) (w13.alloc (.cells #[.int .u8 0, .int .u8 0, .int .u8 0, .int .u8 0, .int .u8 0, .int .u8 0, .int .u8 0, .int .u8 0, .int .u8 0, .int .u8 0, .int .u8 0, .int .u8 0, .int .u8 0, .int .u8 0, .int .u8 0, .int .u8 0, .int .u8 0, .int .u8 0, .int .u8 0, .int .u8 0, .int .u8 0, .int .u8 0, .int .u8 0, .int .u8 0, .int .u8 0, .int .u8 0, .int .u8 0, .int .u8 0, .int .u8 0, .int .u8 0, .int .u8 0, .int .u8 0, .int .u8 0, .int .u8 0, .int .u8 0, .int .u8 0, .int .u8 0, .int .u8 0, .int .u8 0, .int .u8 0, .int .u8 0, .int .u8 0, .int .u8 0, .int .u8 0, .int .u8 0, .int .u8 0, .int .u8 0, .int .u8 0, .int .u8 0, .int .u8 0, .int .u8 0, .int .u8 0, .int .u8 0, .int .u8 0, .int .u8 0, .int .u8 0, .int .u8 0, .int .u8 0, .int .u8 0, .int .u8 0, .int .u8 0, .int .u8 0, .int .u8 0, .int .u8 5] 5)) := str_of (sl8 w13 b64 (by decide))
  replace RL := RL.alloc (.cells #[.int .u8 0, .int .u8 0, .int .u8 0, .int .u8 0, .int .u8 0, .int .u8 0, .int .u8 0, .int .u8 0, .int .u8 0, .int .u8 0, .int .u8 0, .int .u8 0, .int .u8 0, .int .u8 0, .int .u8 0, .int .u8 0, .int .u8 0, .int .u8 0, .int .u8 0, .int .u8 0, .int .u8 0, .int .u8 0, .int .u8 0, .int .u8 0, .int .u8 0, .int .u8 0, .int .u8 0, .int .u8 0, .int .u8 0, .int .u8 0, .int .u8 0, .int .u8 0, .int .u8 0, .int .u8 0, .int .u8 0, .int .u8 0, .int .u8 0, .int .u8 0, .int .u8 0, .int .u8 0, .int .u8 0, .int .u8 0, .int .u8 0, .int .u8 0, .int .u8 0, .int .u8 0, .int .u8 0, .int .u8 0, .int .u8 0, .int .u8 0, .int .u8 0, .int .u8 0, .int .u8 0, .int .u8 0, .int .u8 0, .int .u8 0, .int .u8 0, .int .u8 0, .int .u8 0, .int .u8 0, .int .u8 0, .int .u8 0, .int .u8 0, .int .u8 5] 5)
  replace R2 := R2.alloc (.cells #[.int .u8 0, .int .u8 0, .int .u8 0, .int .u8 0, .int .u8 0, .int .u8 0, .int .u8 0, .int .u8 0, .int .u8 0, .int .u8 0, .int .u8 0, .int .u8 0, .int .u8 0, .int .u8 0, .int .u8 0, .int .u8 0, .int .u8 0, .int .u8 0, .int .u8 0, .int .u8 0, .int .u8 0, .int .u8 0, .int .u8 0, .int .u8 0, .int .u8 0, .int .u8 0, .int .u8 0, .int .u8 0, .int .u8 0, .int .u8 0, .int .u8 0, .int .u8 0, .int .u8 0, .int .u8 0, .int .u8 0, .int .u8 0, .int .u8 0, .int .u8 0, .int .u8 0, .int .u8 0, .int .u8 0, .int .u8 0, .int .u8 0, .int .u8 0, .int .u8 0, .int .u8 0, .int .u8 0, .int .u8 0, .int .u8 0, .int .u8 0, .int .u8 0, .int .u8 0, .int .u8 0, .int .u8 0, .int .u8 0, .int .u8 0, .int .u8 0, .int .u8 0, .int .u8 0, .int .u8 0, .int .u8 0, .int .u8 0, .int .u8 0, .int .u8 5] 5)
  replace R3 := R3.alloc (.cells #[.int .u8 0, .int .u8 0, .int .u8 0, .int .u8 0, .int .u8 0, .int .u8 0, .int .u8 0, .int .u8 0, .int .u8 0, .int .u8 0, .int .u8 0, .int .u8 0, .int .u8 0, .int .u8 0, .int .u8 0, .int .u8 0, .int .u8 0, .int .u8 0, .int .u8 0, .int .u8 0, .int .u8 0, .int .u8 0, .int .u8 0, .int .u8 0, .int .u8 0, .int .u8 0, .int .u8 0, .int .u8 0, .int .u8 0, .int .u8 0, .int .u8 0, .int .u8 0, .int .u8 0, .int .u8 0, .int .u8 0, .int .u8 0, .int .u8 0, .int .u8 0, .int .u8 0, .int .u8 0, .int .u8 0, .int .u8 0, .int .u8 0, .int .u8 0, .int .u8 0, .int .u8 0, .int .u8 0, .int .u8 0, .int .u8 0, .int .u8 0, .int .u8 0, .int .u8 0, .int .u8 0, .int .u8 0, .int .u8 0, .int .u8 0, .int .u8 0, .int .u8 0, .int .u8 0, .int .u8 0, .int .u8 0, .int .u8 0, .int .u8 0, .int .u8 5] 5)
  replace R4 := R4.alloc (.cells #[.int .u8 0, .int .u8 0, .int .u8 0, .int .u8 0, .int .u8 0, .int .u8 0, .int .u8 0, .int .u8 0, .int .u8 0, .int .u8 0, .int .u8 0, .int .u8 0, .int .u8 0, .int .u8 0, .int .u8 0, .int .u8 0, .int .u8 0, .int .u8 0, .int .u8 0, .int .u8 0, .int .u8 0, .int .u8 0, .int .u8 0, .int .u8 0, .int .u8 0, .int .u8 0, .int .u8 0, .int .u8 0, .int .u8 0, .int .u8 0, .int .u8 0, .int .u8 0, .int .u8 0, .int .u8 0, .int .u8 0, .int .u8 0, .int .u8 0, .int .u8 0, .int .u8 0, .int .u8 0, .int .u8 0, .int .u8 0, .int .u8 0, .int .u8 0, .int .u8 0, .int .u8 0, .int .u8 0, .int .u8 0, .int .u8 0, .int .u8 0, .int .u8 0, .int .u8 0, .int .u8 0, .int .u8 0, .int .u8 0, .int .u8 0, .int .u8 0, .int .u8 0, .int .u8 0, .int .u8 0, .int .u8 0, .int .u8 0, .int .u8 0, .int .u8 5] 5)
  replace R6 := R6.alloc (.cells #[.int .u8 0, .int .u8 0, .int .u8 0, .int .u8 0, .int .u8 0, .int .u8 0, .int .u8 0, .int .u8 0, .int .u8 0, .int .u8 0, .int .u8 0, .int .u8 0, .int .u8 0, .int .u8 0, .int .u8 0, .int .u8 0, .int .u8 0, .int .u8 0, .int .u8 0, .int .u8 0, .int .u8 0, .int .u8 0, .int .u8 0, .int .u8 0, .int .u8 0, .int .u8 0, .int .u8 0, .int .u8 0, .int .u8 0, .int .u8 0, .int .u8 0, .int .u8 0, .int .u8 0, .int .u8 0, .int .u8 0, .int .u8 0, .int .u8 0, .int .u8 0, .int .u8 0, .int .u8 0, .int .u8 0, .int .u8 0, .int .u8 0, .int .u8 0, .int .u8 0, .int .u8 0, .int .u8 0, .int .u8 0, .int .u8 0, .int .u8 0, .int .u8 0, .int .u8 0, .int .u8 0, .int .u8 0, .int .u8 0, .int .u8 0, .int .u8 0, .int .u8 0, .int .u8 0, .int .u8 0, .int .u8 0, .int .u8 0, .int .u8 0, .int .u8 5] 5)
  replace S7 := S7.alloc (.cells #[.int .u8 0, .int .u8 0, .int .u8 0, .int .u8 0, .int .u8 0, .int .u8 0, .int .u8 0, .int .u8 0, .int .u8 0, .int .u8 0, .int .u8 0, .int .u8 0, .int .u8 0, .int .u8 0, .int .u8 0, .int .u8 0, .int .u8 0, .int .u8 0, .int .u8 0, .int .u8 0, .int .u8 0, .int .u8 0, .int .u8 0, .int .u8 0, .int .u8 0, .int .u8 0, .int .u8 0, .int .u8 0, .int .u8 0, .int .u8 0, .int .u8 0, .int .u8 0, .int .u8 0, .int .u8 0, .int .u8 0, .int .u8 0, .int .u8 0, .int .u8 0, .int .u8 0, .int .u8 0, .int .u8 0, .int .u8 0, .int .u8 0, .int .u8 0, .int .u8 0, .int .u8 0, .int .u8 0, .int .u8 0, .int .u8 0, .int .u8 0, .int .u8 0, .int .u8 0, .int .u8 0, .int .u8 0, .int .u8 0, .int .u8 0, .int .u8 0, .int .u8 0, .int .u8 0, .int .u8 0, .int .u8 0, .int .u8 0, .int .u8 0, .int .u8 5] 5)
  replace bb := bb.alloc bb.size (.cells #[.int .u8 0, .int .u8 0, .int .u8 0, .int .u8 0, .int .u8 0, .int .u8 0, .int .u8 0, .int .u8 0, .int .u8 0, .int .u8 0, .int .u8 0, .int .u8 0, .int .u8 0, .int .u8 0, .int .u8 0, .int .u8 0, .int .u8 0, .int .u8 0, .int .u8 0, .int .u8 0, .int .u8 0, .int .u8 0, .int .u8 0, .int .u8 0, .int .u8 0, .int .u8 0, .int .u8 0, .int .u8 0, .int .u8 0, .int .u8 0, .int .u8 0, .int .u8 0, .int .u8 0, .int .u8 0, .int .u8 0, .int .u8 0, .int .u8 0, .int .u8 0, .int .u8 0, .int .u8 0, .int .u8 0, .int .u8 0, .int .u8 0, .int .u8 0, .int .u8 0, .int .u8 0, .int .u8 0, .int .u8 0, .int .u8 0, .int .u8 0, .int .u8 0, .int .u8 0, .int .u8 0, .int .u8 0, .int .u8 0, .int .u8 0, .int .u8 0, .int .u8 0, .int .u8 0, .int .u8 0, .int .u8 0, .int .u8 0, .int .u8 0, .int .u8 5] 5)
  go_wp2_with fail
  generalize w13.alloc (.cells #[.int .u8 0, .int .u8 0, .int .u8 0, .int .u8 0, .int .u8 0, .int .u8 0, .int .u8 0, .int .u8 0, .int .u8 0, .int .u8 0, .int .u8 0, .int .u8 0, .int .u8 0, .int .u8 0, .int .u8 0, .int .u8 0, .int .u8 0, .int .u8 0, .int .u8 0, .int .u8 0, .int .u8 0, .int .u8 0, .int .u8 0, .int .u8 0, .int .u8 0, .int .u8 0, .int .u8 0, .int .u8 0, .int .u8 0, .int .u8 0, .int .u8 0, .int .u8 0, .int .u8 0, .int .u8 0, .int .u8 0, .int .u8 0, .int .u8 0, .int .u8 0, .int .u8 0, .int .u8 0, .int .u8 0, .int .u8 0, .int .u8 0, .int .u8 0, .int .u8 0, .int .u8 0, .int .u8 0, .int .u8 0, .int .u8 0, .int .u8 0, .int .u8 0, .int .u8 0, .int .u8 0, .int .u8 0, .int .u8 0, .int .u8 0, .int .u8 0, .int .u8 0, .int .u8 0, .int .u8 0, .int .u8 0, .int .u8 0, .int .u8 0, .int .u8 5] 5) = w14 at *
  generalize w13.heap.size = g14 at *
  clear q1 q1b q2
  have hC := iCheck_any aC A6 8 c6 w14 R6
  refine hC.mono ?_
  clear hC
  rintro e w15 ⟨rfl, b15⟩
  replace RL := RL.below b15
  replace R2 := R2.below b15
  replace R3 := R3.below b15
  replace R4 := R4.below b15
  replace R6 := R6.below b15
  replace S7 := S7.below b15
  replace bb := bb.trans (b15.mono bb.size)
  rw [aw9_c1]
  have hC := iCheck_any [] none 0 0 w15 (Rs.nil cpE (fun _ => True) _)
  go_wp2_with fail
  refine hC.mono ?_
  clear hC
  rintro e w16 ⟨rfl, b16⟩
  replace RL := RL.below b16
  replace R2 := R2.below b16
  replace R3 := R3.below b16
  replace R4 := R4.below b16
  replace R6 := R6.below b16
  replace S7 := S7.below b16
  replace bb := bb.trans (b16.mono bb.size)
  rw [aw9_c2]
  have hC := iAlike_any aL aL (some ⟨gl, 0, none⟩) 8 8 (some ⟨gl, 0, none⟩) 8 8 w16 RL RL
  go_wp2_with fail
  refine hC.mono ?_
  clear hC
  rintro e w17 ⟨rfl, b17⟩
  replace RL := RL.below b17
  replace R2 := R2.below b17
  replace R3 := R3.below b17
  replace R4 := R4.below b17
  replace R6 := R6.below b17
  replace S7 := S7.below b17
  replace bb := bb.trans (b17.mono bb.size)
  rw [aw9_a1]
  have hC := iAlike_any aL aA (some ⟨gl, 0, none⟩) 8 8 A2 8 c2 w17 RL R2
  go_wp2_with fail
  refine hC.mono ?_
  clear hC
  rintro e w18 ⟨rfl, b18⟩
  replace RL := RL.below b18
  replace R2 := R2.below b18
  replace R3 := R3.below b18
  replace R4 := R4.below b18
  replace R6 := R6.below b18
  replace S7 := S7.below b18
  replace bb := bb.trans (b18.mono bb.size)
  rw [aw9_a2]
  go_wp2
  go_ret
  exact ⟨rfl, bb⟩
end Go.Proofs.Ytagageidiebogaa

/-
  Images that are written, filled and read: plain facts. No program is named here.
-/
namespace Go.Wag
open Go.RowKit
set_option linter.unusedVariables false
theorem doneL_yes {l r : List Cp} {m : Bool} (h : ichk l = true) (hm : m = true) : doneL l m r = r := by simp [doneL, h, hm]
theorem doneE_yes {l : List Cp} {m : Bool} (h : ichk l = true) (hm : m = true) : doneE l m = 0 := by simp [doneE, h, hm]
theorem doneL_may {l r : List Cp} {m : Bool} (h : ichk l = true) (hm : m = false) : doneL l m r = l := by simp [doneL, h, hm]
theorem doneE_may {l : List Cp} {m : Bool} (h : ichk l = true) (hm : m = false) : doneE l m = 81 := by simp [doneE, h, hm]
theorem doneL_chk {l r : List Cp} {m : Bool} (h : ichk l = false) : doneL l m r = [] := by simp [doneL, h]
theorem doneE_chk {l : List Cp} {m : Bool} (h : ichk l = false) : doneE l m = 90 := by simp [doneE, h]
theorem ok_cellB {g : Int} {b : List UInt8} {i : Nat} (hg : genF g = true) : (cellB g b i).ok = true := by
  have := of_decide_eq_true hg
  exact decide_eq_true ⟨show (0 : Int) ≤ 2 by decide, show (2 : Int) ≤ 2 by decide, this.1, this.2, fun h => absurd rfl h⟩
theorem ok_fill {kd g : Int} (hg : genF g = true) (hk : kd = 0 ∨ kd = 1) : (⟨kd, g, z32⟩ : Cp).ok = true := by
  have := of_decide_eq_true hg
  exact decide_eq_true ⟨by show 0 ≤ kd; omega, by show kd ≤ 2; omega, this.1, this.2, fun _ => rfl⟩
theorem ichk_sets {l : List Cp} {a : Nat} {f : Nat → Cp} {j : Nat} (h : ichk l = true) (hf : ∀ i, i < j → (f i).ok = true) : ichk (setsF l a f j) = true := by
  obtain ⟨h1, h2⟩ := ichk_iff.1 h
  exact ichk_iff.2 ⟨by rw [setsF_len]; exact h1, setsF_mem h2 j hf⟩
theorem sets_two {l : List Cp} {a : Nat} {f f' F : Nat → Cp} {k m : Nat} (hl : a + (k + m) ≤ l.length) (h1 : ∀ i, i < k → f i = F i) (h2 : ∀ i, i < m → f' i = F (k + i)) : setsF (setsF l a f k) (a + k) f' m = setsF l a F (k + m) := by
  apply List.ext_getElem?
  intro i
  rw [setsF_at _ _ _ _ _ (by rw [setsF_len]; omega), setsF_at _ _ _ _ _ (by omega), setsF_at _ _ _ _ _ hl]
  by_cases hi : a ≤ i ∧ i < a + (k + m)
  · rw [if_pos hi]
    by_cases hi2 : a + k ≤ i
    · rw [if_pos (by omega), h2 _ (by omega), show k + (i - (a + k)) = i - a by omega]
    · rw [if_neg (by omega), if_pos (by omega), h1 _ (by omega)]
  · rw [if_neg hi, if_neg (by omega), if_neg (by omega)]
theorem sets_over {l : List Cp} {a : Nat} {f F : Nat → Cp} {m : Nat} (hl : a + m ≤ l.length) : setsF (setsF l a f m) a F m = setsF l a F m := by
  apply List.ext_getElem?
  intro i
  rw [setsF_at _ _ _ _ _ (by rw [setsF_len]; omega), setsF_at _ _ _ _ _ (by omega), setsF_at _ _ _ _ _ hl]
  by_cases hi : a ≤ i ∧ i < a + m
  · rw [if_pos hi, if_pos hi]
  · rw [if_neg hi, if_neg hi, if_neg hi]
theorem chunk_take {b : List UInt8} {k i : Nat} (h : i < k) : chunk (b.take (32 * k)) i = chunk b i := by
  unfold chunk
  rw [List.drop_take, List.take_take, Nat.min_eq_left (by omega)]
theorem chunk_drop {b : List UInt8} {k i : Nat} : chunk (b.drop (32 * k)) i = chunk b (k + i) := by
  unfold chunk
  rw [List.drop_drop, show 32 * k + 32 * i = 32 * (k + i) by omega]
theorem wr_open {l : List Cp} {lba g : Int} {b : List UInt8} (h : wrMay l lba g b = true) : b.length % 32 = 0 ∧ hasF l.length lba ((b.length / 32 : Nat) : Int) = true ∧ genF g = true := by
  unfold wrMay at h
  rw [Bool.and_eq_true, Bool.and_eq_true] at h
  exact ⟨of_decide_eq_true h.1.1, h.1.2, h.2⟩
theorem has_mk {k a m : Nat} (h1 : 1 ≤ m) (h2 : a + m ≤ k) : hasF k (a : Int) (m : Int) = true := decide_eq_true ⟨by omega, by omega, by omega⟩
/-- What ImageParts reckons. -/
theorem im_nums {q : Nat} {cu : Int} (h1 : 2 ≤ q) (h2 : q ≤ 100) (hc : 0 ≤ cu) : ∃ (r : Int) (k : Nat), cu % ((q : Int) - 1) = r ∧ wrap64 (1 + r) = (k : Int) ∧ (1 ≤ k ∧ k + 1 ≤ q) := by
  have a1 : 0 ≤ cu % ((q : Int) - 1) ∧ cu % ((q : Int) - 1) < (q : Int) - 1 := ⟨Int.emod_nonneg cu (by omega), Int.emod_lt_of_pos cu (by omega)⟩
  generalize hr : cu % ((q : Int) - 1) = r at a1
  refine ⟨r, 1 + r.toNat, rfl, ?_, by omega, by omega⟩
  unfold wrap64; omega
/-- What ImageParts finds. -/
theorem im_parts {xs : List Cp} {a q k : Nat} {g kd : Int} {b : List UInt8} (hc : ichk xs = true) (hw : wrMay xs a g b = true) (hq : b.length / 32 = q) (hk : 1 ≤ k ∧ k + 1 ≤ q) (hkd : kd = 0 ∨ kd = 1) :
    ∃ X Y P : List Cp, X.length = xs.length ∧ Y.length = xs.length ∧ P.length = xs.length ∧
      (doneL xs (wrMay xs a g b) (wrR xs a g b) = X ∧ doneE xs (wrMay xs a g b) = 0) ∧
      (doneL xs (wrMay xs a g (b.take (32 * k))) (wrR xs a g (b.take (32 * k))) = Y ∧ doneE xs (wrMay xs a g (b.take (32 * k))) = 0) ∧
      (doneL Y (wrMay Y ((a : Int) + (k : Int)) g (b.drop (32 * k))) (wrR Y ((a : Int) + (k : Int)) g (b.drop (32 * k))) = X ∧ doneE Y (wrMay Y ((a : Int) + (k : Int)) g (b.drop (32 * k))) = 0) ∧
      (doneL X (fillMay X a (q : Int) kd g) (fillR X a (q : Int) kd g) = P ∧ doneE X (fillMay X a (q : Int) kd g) = 0) ∧
      (doneL xs (fillMay xs a (q : Int) kd g) (fillR xs a (q : Int) kd g) = P ∧ doneE xs (fillMay xs a (q : Int) kd g) = 0) := by
  obtain ⟨h1, h2, h3⟩ := wr_open hw
  rw [hq] at h2
  obtain ⟨a', m, ha, hm, hm1, hfit⟩ := has_nat h2
  obtain rfl : a = a' := by omega
  obtain rfl : q = m := by omega
  have lt : (b.take (32 * k)).length = 32 * k := by rw [List.length_take]; omega
  have ld : (b.drop (32 * k)).length = 32 * (q - k) := by rw [List.length_drop]; omega
  have cX : ichk (wrR xs a g b) = true := ichk_sets hc (fun i _ => ok_cellB h3)
  have cY : ichk (wrR xs a g (b.take (32 * k))) = true := ichk_sets hc (fun i _ => ok_cellB h3)
  have lX : (wrR xs a g b).length = xs.length := setsF_len _ _ _ _
  have lY : (wrR xs a g (b.take (32 * k))).length = xs.length := setsF_len _ _ _ _
  have mY : wrMay xs a g (b.take (32 * k)) = true := wr_yes (by rw [lt]; omega) (by rw [lt, show 32 * k / 32 = k by omega]; exact has_mk hk.1 (by omega)) h3
  have mZ : wrMay (wrR xs a g (b.take (32 * k))) ((a : Int) + (k : Int)) g (b.drop (32 * k)) = true := wr_yes (by rw [ld]; omega) (by rw [ld, show 32 * (q - k) / 32 = q - k by omega, lY]; exact has_mk (a := a + k) (by omega) (by omega)) h3
  have mP : fillMay (wrR xs a g b) a (q : Int) kd g = true := fill_yes (by rw [lX]; exact h2) hkd h3
  have mQ : fillMay xs a (q : Int) kd g = true := fill_yes h2 hkd h3
  refine ⟨wrR xs a g b, wrR xs a g (b.take (32 * k)), fillR xs a (q : Int) kd g, lX, lY, setsF_len _ _ _ _, ⟨doneL_yes hc hw, doneE_yes hc hw⟩, ⟨doneL_yes hc mY, doneE_yes hc mY⟩, ⟨(doneL_yes cY mZ).trans ?_, doneE_yes cY mZ⟩, ⟨(doneL_yes cX mP).trans ?_, doneE_yes cX mP⟩, ⟨doneL_yes hc mQ, doneE_yes hc mQ⟩⟩
  · unfold wrR
    rw [ld, lt, show 32 * (q - k) / 32 = q - k by omega, show 32 * k / 32 = k by omega, hq, show ((a : Int) + (k : Int)).toNat = a + k by omega, Int.toNat_natCast]
    rw [show q = k + (q - k) by omega, show k + (q - k) - k = q - k by omega]
    refine sets_two (by omega) (fun i hi => ?_) (fun i hi => ?_)
    · rw [cellB, cellB, chunk_take hi]
    · rw [cellB, cellB, chunk_drop]
  · unfold fillR wrR
    rw [hq, Int.toNat_natCast, Int.toNat_natCast]
    exact sets_over hfit
/-- The bytes of what was written. -/
theorem flat_wr {xs : List Cp} {a q : Nat} {g : Int} {b : List UInt8} (hfit : a + q ≤ xs.length) : ∀ j, j ≤ q → flatB (setsF xs a (cellB g b) q) a j = b.take (32 * j)
  | 0, _ => by simp [flatB]
  | j + 1, h => by
    rw [flatB, flat_wr hfit j (by omega), setsF_at _ _ _ _ _ hfit, if_pos (by omega), Nat.add_sub_cancel_left, Option.getD_some, cellB, chunk, ← List.take_add, show 32 * j + 32 = 32 * (j + 1) by omega]
/-- What ImageKeeps finds. -/
theorem im_keeps {xs : List Cp} {a q : Nat} {g : Int} {b : List UInt8} (hc : ichk xs = true) (hw : wrMay xs a g b = true) (hq : b.length / 32 = q) :
    ∃ X : List Cp, X.length = xs.length ∧ ichk X = true ∧ a + q ≤ xs.length ∧ (doneL xs (wrMay xs a g b) (wrR xs a g b) = X ∧ doneE xs (wrMay xs a g b) = 0) ∧ (rdR X a (q : Int) = b ∧ doneE X (hasF X.length a (q : Int)) = 0) ∧ ∀ i, i < a ∨ a + q ≤ i → X[i]? = xs[i]? := by
  obtain ⟨h1, h2, h3⟩ := wr_open hw
  rw [hq] at h2
  obtain ⟨a', m, ha, hm, hm1, hfit⟩ := has_nat h2
  obtain rfl : a = a' := by omega
  obtain rfl : q = m := by omega
  have cX : ichk (wrR xs a g b) = true := ichk_sets hc (fun i _ => ok_cellB h3)
  have lX : (wrR xs a g b).length = xs.length := setsF_len _ _ _ _
  have hh : hasF (wrR xs a g b).length a (q : Int) = true := by rw [lX]; exact h2
  refine ⟨wrR xs a g b, lX, cX, hfit, ⟨doneL_yes hc hw, doneE_yes hc hw⟩, ⟨?_, doneE_yes cX hh⟩, fun i hi => ?_⟩
  · rw [Go.Proofs.Ytagageidiebogaa.rdR_yes cX hh, Int.toNat_natCast, Int.toNat_natCast]
    unfold wrR
    rw [hq, Int.toNat_natCast, flat_wr hfit q (Nat.le_refl _), List.take_of_length_le (by omega)]
  · unfold wrR
    rw [hq, Int.toNat_natCast, setsF_at _ _ _ _ _ hfit, if_neg (by omega)]
theorem flat_at {l : List Cp} {a : Nat} (hw : ∀ x ∈ l, x.d.length = 32) : ∀ (j k : Nat), a + j ≤ l.length → k < 32 * j → (flatB l a j)[k]? = ((l[a + k / 32]?).getD c0p).d[k % 32]?
  | 0, k, _, hk => by omega
  | j + 1, k, h, hk => by
    have hl := flatB_len (a := a) hw j (by omega)
    rw [flatB]
    by_cases h1 : k < 32 * j
    · rw [List.getElem?_append_left (by omega)]
      exact flat_at hw j k (by omega) h1
    · rw [List.getElem?_append_right (by omega), hl, show k / 32 = j by omega, show k - 32 * j = k % 32 by omega]
theorem z32_at {k : Nat} (h : k < 32) : z32[k]? = some 0 := by
  rw [z32, List.getElem?_replicate, if_pos h]
/-- What ImageFills finds. -/
theorem im_fills {xs : List Cp} {a m n : Nat} {kd g : Int} (hn : xs.length = n) (hwf : ∀ x ∈ xs, x.d.length = 32) (hc : ichk xs = true) (hkd : kd = 0 ∨ kd = 1) (hg : genF g = true) (hm1 : 1 ≤ m) (hfit : a + m ≤ n) :
    ∃ (M : List Cp) (bs was now : List UInt8), M.length = n ∧ ichk M = true ∧ bs.length = 32 * m ∧ was.length = 32 * n ∧ now.length = 32 * n ∧
      (doneL xs (fillMay xs a (m : Int) kd g) (fillR xs a (m : Int) kd g) = M ∧ doneE xs (fillMay xs a (m : Int) kd g) = 0) ∧
      (doneL M (fillMay M a (m : Int) kd g) (fillR M a (m : Int) kd g) = M ∧ doneE M (fillMay M a (m : Int) kd g) = 0) ∧
      (rdR M a (m : Int) = bs ∧ doneE M (hasF M.length a (m : Int)) = 0) ∧ (rdR xs 0 (n : Int) = was ∧ doneE xs (hasF xs.length 0 (n : Int)) = 0) ∧ (rdR M 0 (n : Int) = now ∧ doneE M (hasF M.length 0 (n : Int)) = 0) ∧
      ∀ k, k < 32 * n → (a ≤ k / 32 ∧ k / 32 < a + m → now[k]? = some 0) ∧ (k / 32 < a ∨ a + m ≤ k / 32 → now[k]? = was[k]?) := by
  subst hn
  have h2 : hasF xs.length a (m : Int) = true := has_mk hm1 hfit
  have hM : fillMay xs a (m : Int) kd g = true := fill_yes h2 hkd hg
  have eF : fillR xs a (m : Int) kd g = setsF xs a (fun _ => ⟨kd, g, z32⟩) m := by
    unfold fillR
    rw [Int.toNat_natCast, Int.toNat_natCast]
  obtain ⟨M, eM⟩ : ∃ M, setsF xs a (fun _ => (⟨kd, g, z32⟩ : Cp)) m = M := ⟨_, rfl⟩
  rw [eM] at eF
  have lM : M.length = xs.length := by rw [← eM]; exact setsF_len _ _ _ _
  have cM : ichk M = true := by rw [← eM]; exact ichk_sets hc (fun i _ => ok_fill hg hkd)
  have wM : ∀ x ∈ M, x.d.length = 32 := by rw [← eM]; exact setsF_mem hwf m (fun i _ => rfl)
  have hM2 : hasF M.length a (m : Int) = true := by rw [lM]; exact h2
  have hM3 : fillMay M a (m : Int) kd g = true := fill_yes hM2 hkd hg
  have hx : hasF xs.length 0 (xs.length : Int) = true := has_mk (a := 0) (by omega) (by omega)
  have hx2 : hasF M.length 0 (xs.length : Int) = true := by rw [lM]; exact hx
  have lw : (flatB xs 0 xs.length).length = 32 * xs.length := flatB_len hwf _ (by omega)
  have ln : (flatB M 0 xs.length).length = 32 * xs.length := flatB_len wM _ (by omega)
  have lb : (flatB M a m).length = 32 * m := flatB_len wM _ (by omega)
  refine ⟨M, flatB M a m, flatB xs 0 xs.length, flatB M 0 xs.length, lM, cM, lb, lw, ln, ⟨(doneL_yes hc hM).trans eF, doneE_yes hc hM⟩, ⟨(doneL_yes cM hM3).trans ?_, doneE_yes cM hM3⟩, ⟨?_, doneE_yes cM hM2⟩, ⟨?_, doneE_yes hc hx⟩, ⟨?_, doneE_yes cM hx2⟩, fun k hk => ?_⟩
  · unfold fillR
    rw [Int.toNat_natCast, Int.toNat_natCast, ← eM]
    exact sets_over hfit
  · rw [Go.Proofs.Ytagageidiebogaa.rdR_yes cM hM2, Int.toNat_natCast, Int.toNat_natCast]
  · rw [Go.Proofs.Ytagageidiebogaa.rdR_yes hc hx, Int.toNat_natCast]
    rfl
  · rw [Go.Proofs.Ytagageidiebogaa.rdR_yes cM hx2, Int.toNat_natCast]
    rfl
  · have hx3 : (0 + k / 32) < xs.length := by omega
    rw [flat_at wM _ _ (by omega) hk, flat_at hwf _ _ (by omega) hk, ← eM, setsF_at _ _ _ _ _ hfit]
    refine ⟨fun hi => ?_, fun hi => ?_⟩
    · rw [if_pos (by omega), Option.getD_some]
      exact z32_at (by omega)
    · rw [if_neg (by omega)]
end Go.Wag

/-
  Blocks that came in as arguments.
-/
namespace Go.Wag
open Go.RowKit
set_option linter.unusedVariables false
set_option maxRecDepth 20000
/-- The forms of a block's cells. -/
def cpF : List Fm := .num .i64 :: .num .i64 :: List.replicate 32 (.num .u8)
theorem wf_byte {n : Int} (h : (Lit.int .u8 n).wf = true) : 0 ≤ n ∧ n ≤ 255 := by
  have e1 : IntKind.u8.min = 0 := by decide
  have e2 : IntKind.u8.max = 255 := by decide
  simp only [Lit.wf, Bool.and_eq_true, decide_eq_true_eq, e1, e2] at h
  exact h
theorem v8_of {n : Int} (h : (Lit.int .u8 n).wf = true) : ∃ c : UInt8, v8 c = .int .u8 n := by
  obtain ⟨h0, h1⟩ := wf_byte h
  refine ⟨UInt8.ofNat n.toNat, ?_⟩
  have : (UInt8.ofNat n.toNat).toNat = n.toNat := by
    rw [UInt8.toNat_ofNat']
    omega
  unfold v8
  rw [this]
  congr 1
  omega
/-- A slice of blocks that came in. -/
theorem cells_of_sts {w : World} {a : Option Addr} {len cap : Nat} (h : IsSts cpF w a len cap) : ∃ xs : List Cp, Rs cpE (fun b => b < w.heap.size) w a len cap xs := by
  rcases h with ⟨rfl, rfl, rfl⟩ | ⟨ad, rfl, hl, hm, hc⟩
  · exact ⟨[], Rs.nil _ _ _⟩
  · have hm2 : cap ≤ 9223372036854775807 := by simpa [maxLen] using hm
    rcases Nat.eq_zero_or_pos len with h0 | h0
    · subst h0
      exact ⟨[], rfl, hl, hm2, fun h => absurd h (by omega)⟩
    · obtain ⟨g, o, sp⟩ := ad
      have hg : g < w.heap.size := by
        obtain ⟨v, cz, _⟩ := hc 0 h0 0 _ rfl
        by_cases hx : g < w.heap.size
        · exact hx
        · exfalso
          unfold World.cell? at cz
          rw [add_block, Array.getElem?_eq_none (by simp; omega)] at cz
          cases cz
      cases sp with
      | some sp =>
        exfalso
        obtain ⟨v, cz, _⟩ := hc 0 h0 0 _ rfl
        unfold World.cell? at cz
        split at cz
        · simp [Addr.add] at cz
        · cases cz
      | none =>
        obtain ⟨xs, hzl, hz⟩ := list_of (Q := fun i (x : Cp) => Cs w g (o + i * 34) x) len (fun i hi => by
          obtain ⟨v0, c0, n0, rfl, hw0⟩ := hc i hi 0 _ rfl
          obtain ⟨v1, c1, n1, rfl, hw1⟩ := hc i hi 1 _ rfl
          obtain ⟨d, hd, hq⟩ := list_of (Q := fun j (c : UInt8) => w.cell? ⟨g, o + i * 34 + (2 + j), none⟩ = some (v8 c)) 32 (fun j hj => by
            obtain ⟨v, cz, n, rfl, hw⟩ := hc i hi (2 + j) (.num .u8) (by rw [cpF, show 2 + j = j + 1 + 1 by omega, List.getElem?_cons_succ, List.getElem?_cons_succ, List.getElem?_replicate, if_pos hj])
            obtain ⟨c, hcv⟩ := v8_of hw
            refine ⟨c, ?_⟩
            rw [hcv, ← cz, Addr.add_lit]
            show w.cell? ⟨g, o + i * 34 + (2 + j), none⟩ = w.cell? ⟨g, o + (i * 34 + (2 + j)), none⟩
            rw [Nat.add_assoc])
          refine ⟨⟨n0, n1, d⟩, ⟨hd, hw0, hw1⟩, fun j v hj => ?_⟩
          rcases j with _ | _ | j
          · cases hj
            rw [Addr.add_lit] at c0
            exact c0
          · cases hj
            rw [Addr.add_lit, ← Nat.add_assoc] at c1
            exact c1
          · rw [cpV, List.getElem?_cons_succ, List.getElem?_cons_succ, List.getElem?_map] at hj
            obtain ⟨c, hcj, rfl⟩ := Option.map_eq_some_iff.1 hj
            have := hq j c hcj
            rw [show 2 + j = j + 1 + 1 by omega] at this
            exact this)
        exact ⟨xs, hzl, hl, hm2, fun _ => ⟨g, o, rfl, hg, hg, fun i x hx => ⟨cpV x, ⟨rfl, (hz i x hx).1⟩, (hz i x hx).2⟩⟩⟩
end Go.Wag
