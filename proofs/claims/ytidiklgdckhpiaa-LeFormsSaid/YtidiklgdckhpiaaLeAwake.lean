/-
  The calls at every statement's head answer as the document says.
-/
import Derived.Test.YtidiklgdckhpiaaLeRef
namespace Go.Proofs.Ytidiklgdckhpiaa
open Go.RowKit Go.Wag
set_option linter.unusedVariables false

theorem drewN_below {B : Nat} {a w : World} (h : Below B a w) (n : Nat) : Below B a (w.drewN n) := ⟨h.os, h.tape, h.output, h.size, h.block⟩
theorem SamePost.below {w w' : World} {r : Bool} {e : Ending} (h : SamePost w r e w') : e = .returned (.bool r) ∧ Below w.heap.size w w' := by
  obtain ⟨he, q, rfl⟩ := h
  exact ⟨he, drewN_below (Below.refl _ _) q⟩
theorem un9 : Try.prog.underlying 9 = some .string := by kernel_rfl
/-- 'string(b)' at this program's types. -/
theorem str_of {w : World} {A : Option Addr} {n c : Nat} {l : List UInt8} (h : Sl w A n c (l.map v8)) : (convert 22 9 (.slice A n c)).run Try.prog w = .ok (.string ⟨l.toArray⟩) w :=
  h.run_string 22 9 5 Try.underlying22 Try.underlying5 un9
theorem sl8 (w : World) (l : List UInt8) (hl : l.length ≤ 1000) : Sl (w.alloc (.cells (l.map v8).toArray 5)) (some ⟨w.heap.size, 0, none⟩) l.length l.length (l.map v8) := by
  have := Sl.new w (l.map v8) 5 (by simp; omega)
  simpa using this
theorem sl64 (w : World) (l : List UInt64) (hl : l.length ≤ 1000) : Sl (w.alloc (.cells (l.map v64).toArray 23)) (some ⟨w.heap.size, 0, none⟩) l.length l.length (l.map v64) := by
  have := Sl.new w (l.map v64) 23 (by simp; omega)
  simpa using this

theorem sl8_at (w : World) (l : List UInt8) (H : Nat) (hH : w.heap.size = H) (hl : l.length ≤ 1000) : Sl (w.alloc (.cells (l.map v8).toArray 5)) (some ⟨H, 0, none⟩) l.length l.length (l.map v8) := by
  subst hH; exact sl8 w l hl
theorem sl64_at (w : World) (l : List UInt64) (H : Nat) (hH : w.heap.size = H) (hl : l.length ≤ 1000) : Sl (w.alloc (.cells (l.map v64).toArray 23)) (some ⟨H, 0, none⟩) l.length l.length (l.map v64) := by
  subst hH; exact sl64 w l hl

def AwakePost (w : World) (e : Ending) (w' : World) : Prop := e = .returned (.bool true) ∧ Below w.heap.size w w'

set_option maxRecDepth 100000 in
set_option maxHeartbeats 1000000 in
theorem awake_any (w : World) : Calls Try.prog 10 #[] w (AwakePost w) := by
  go_enter Try.func10, Try.ntmps10
  go_wp2_with fail
  refine (BytesErr.ok (Pack_any ⟨#[98, 104]⟩ _ 2 2 [7, 258] _ (by exact sl64 w [7, 258] (by decide)) (by decide)) (show _ = some [7, 2, 1] by decide +kernel)).mono ?_
  rintro e w1 ⟨A1, n1, c1, rfl, s1, f1, b1⟩
  replace b1 := ((Below.refl _ w).alloc (Nat.le_refl _) _).trans (b1.mono (by simp))
  go_wp2_with fail
  refine (NumsErr.ok (Unpack_any ⟨#[98, 104]⟩ _ _ _ [7, 2, 1] _ s1 (by decide)) (show _ = some [7, 258] by decide +kernel)).mono ?_
  rintro e w2 ⟨A2, n2, c2, rfl, s2, f2, b2⟩
  replace s1 := s1.below b2
  replace b1 := b1.trans (b2.mono b1.size)
  clear b2
  go_wp2_with fail
  refine (BytesErr.no (Pack_any ⟨#[98]⟩ _ 1 1 [256] _ (by exact sl64 w2 [256] (by decide)) (by decide)) (show _ = none by decide +kernel)).mono ?_
  rintro e w3 ⟨A3, n3, c3, rfl, s3, f3, b3⟩
  replace b3 := ((Below.refl _ w2).alloc (Nat.le_refl _) _).trans (b3.mono (by simp))
  replace s1 := s1.below b3
  replace s2 := s2.below b3
  replace b1 := b1.trans (b3.mono b1.size)
  clear b3 s3 f3
  go_wp2_with fail
  refine (BytesErr.no (Pack_any ⟨#[120]⟩ _ 1 1 [1] _ (by exact sl64 w3 [1] (by decide)) (by decide)) (show _ = none by decide +kernel)).mono ?_
  rintro e w4 ⟨A4, n4, c4, rfl, s4, f4, b4⟩
  replace b4 := ((Below.refl _ w3).alloc (Nat.le_refl _) _).trans (b4.mono (by simp))
  replace s1 := s1.below b4
  replace s2 := s2.below b4
  replace b1 := b1.trans (b4.mono b1.size)
  clear b4 s4 f4
  go_wp2_with fail
  refine (NumErr.ok (Take_any _ 3 3 [2, 1, 9] 2 _ (by exact sl8 w4 [2, 1, 9] (by decide)) (by decide)) (show _ = some (258, [9]) by decide +kernel)).mono ?_
  rintro e w5 ⟨A5, n5, c5, rfl, s5, f5, b5⟩
  replace b5 := ((Below.refl _ w4).alloc (Nat.le_refl _) _).trans (b5.mono (by simp))
  replace s1 := s1.below b5
  replace s2 := s2.below b5
  replace b1 := b1.trans (b5.mono b1.size)
  clear b5 f5
  go_wp2_with fail
  refine (BytesErr.ok (Put_any _ 1 1 [5] 258 2 _ (by exact sl8 w5 [5] (by decide)) (by decide) (by decide) (by decide)) (show _ = some [5, 2, 1] by decide +kernel)).mono ?_
  rintro e w6 ⟨A6, n6, c6, rfl, s6, f6, b6⟩
  replace b6 := ((Below.refl _ w5).alloc (Nat.le_refl _) _).trans (b6.mono (by simp))
  replace s1 := s1.below b6
  replace s2 := s2.below b6
  replace s5 := s5.below b6
  replace b1 := b1.trans (b6.mono b1.size)
  clear b6 f6
  go_wp2_with fail
  refine (NumErr.no (Take_any _ 1 1 [1] 2 _ (by exact sl8 w6 [1] (by decide)) (by decide)) (show _ = none by decide +kernel)).mono ?_
  rintro e w7 ⟨A7, n7, c7, rfl, s7, f7, b7⟩
  replace b7 := ((Below.refl _ w6).alloc (Nat.le_refl _) _).trans (b7.mono (by simp))
  replace s1 := s1.below b7
  replace s2 := s2.below b7
  replace s5 := s5.below b7
  replace s6 := s6.below b7
  replace b1 := b1.trans (b7.mono b1.size)
  clear b7 s7 f7 f1 f2
  have q1 := str_of s1
  have q2 : (convert 22 9 (.slice (some ⟨w7.heap.size, 0, none⟩) 3 3)).run Try.prog (w7.alloc (.cells #[.int .u8 7, .int .u8 2, .int .u8 1] 5)) = .ok (.string ⟨#[7, 2, 1]⟩) (w7.alloc (.cells #[.int .u8 7, .int .u8 2, .int .u8 1] 5)) := str_of (sl8 w7 [7, 2, 1] (by decide))
  go_wp2_with fail
  refine (Same_any A2 n2 c2 [7, 258] _ 2 2 [7, 258] _ ((s2.alloc _).alloc _) (by exact sl64_at (w7.alloc (.cells #[.int .u8 7, .int .u8 2, .int .u8 1] 5)) [7, 258] _ (by simp) (by decide)) (by have := s2.len64; simp at this; omega)).mono ?_
  intro e w8 hp
  obtain ⟨rfl, b8⟩ := hp.below
  clear hp
  replace b8 := (((Below.refl _ w7).alloc (Nat.le_refl _) (.cells #[.int .u8 7, .int .u8 2, .int .u8 1] 5)).alloc (by simp) (.cells #[.int .u64 7, .int .u64 258] 23)).trans (b8.mono (by simp; omega))
  replace s5 := s5.below b8
  replace s6 := s6.below b8
  replace b1 := b1.trans (b8.mono b1.size)
  clear b8 q1 q2 s1 s2
  have q5 := str_of s5
  have q6 : (convert 22 9 (.slice (some ⟨w8.heap.size, 0, none⟩) 1 1)).run Try.prog (w8.alloc (.cells #[.int .u8 9] 5)) = .ok (.string ⟨#[9]⟩) (w8.alloc (.cells #[.int .u8 9] 5)) := str_of (sl8 w8 [9] (by decide))
  have q7 := str_of (s6.alloc (.cells #[.int .u8 9] 5))
  have q8 : (convert 22 9 (.slice (some ⟨w8.heap.size + 1, 0, none⟩) 3 3)).run Try.prog ((w8.alloc (.cells #[.int .u8 9] 5)).alloc (.cells #[.int .u8 5, .int .u8 2, .int .u8 1] 5)) = .ok (.string ⟨#[5, 2, 1]⟩) ((w8.alloc (.cells #[.int .u8 9] 5)).alloc (.cells #[.int .u8 5, .int .u8 2, .int .u8 1] 5)) := by
    have := str_of (sl8 (w8.alloc (.cells #[.int .u8 9] 5)) [5, 2, 1] (by decide))
    rw [World.size_alloc] at this
    exact this
  go_wp2
  go_ret
  exact ⟨rfl, (b1.alloc b1.size _).alloc (by simp; have := b1.size; omega) _⟩
end Go.Proofs.Ytidiklgdckhpiaa
