/-
  The walk of LePuts.
-/
import Derived.Test.YtidiklgdckhpiaaLeAwake
namespace Go.Proofs.Ytidiklgdckhpiaa
open Go.RowKit Go.Wag
set_option linter.unusedVariables false

set_option maxHeartbeats 1000000 in
theorem LePuts_walk (a0 : Option Addr) (len0 cap0 : Nat) (z0 : List Int) (a1 : Int) (a2 : Int) (w : World) (w0 : IsRow .u8 w a0 len0 cap0 z0) (w1 : (Lit.int .u64 a1).wf = true) (w2 : (Lit.int .i64 a2).wf = true) :
    Calls Try.prog 3 #[.slice a0 len0 cap0, .int .u64 a1, .int .i64 a2] w (AwakePost w) := by
  obtain ⟨l, s0⟩ := w0.bytes
  obtain ⟨h0, h1⟩ := wf_u64 w1
  have H1 := Lib.hid h1
  clear w0 w1 w2 h1
  by_cases hl : (300 : Int) < (len0 : Int)
  · go_enter Try.func3, Try.ntmps3
    go_wp2_with fail
    refine (awake_any _).mono ?_
    rintro e w1 ⟨rfl, b1⟩
    go_wp2
    go_ret
    exact ⟨rfl, b1⟩
  · go_enter Try.func3, Try.ntmps3
    go_wp2_with fail
    refine (awake_any _).mono ?_
    rintro e w1 ⟨rfl, b1⟩
    replace s0 := s0.below b1
    go_wp2_with fail
    refine (Put_any _ _ _ l _ _ _ s0 (by omega) h0 H1.out).mono ?_
    rintro e w2 ⟨A2, n2, c2, rfl, s2, f2, b2⟩
    replace s0 := s0.below b2
    replace b1 := b1.trans (b2.mono b1.size)
    clear b2 f2
    go_wp2_with fail
    refine (refPut_any _ _ _ l _ _ _ s0 (by omega) h0 H1.out).mono ?_
    rintro e w3 ⟨A3, n3, c3, rfl, s3, f3, b3⟩
    replace s0 := s0.below b3
    replace s2 := s2.below b3
    replace b1 := b1.trans (b3.mono b1.size)
    clear b3 f3
    go_wp2_with fail
    refine (Take_any _ _ _ l _ _ s0 (by omega)).mono ?_
    rintro e w4 ⟨A4, n4, c4, rfl, s4, f4, b4⟩
    replace s0 := s0.below b4
    replace s2 := s2.below b4
    replace s3 := s3.below b4
    replace b1 := b1.trans (b4.mono b1.size)
    clear b4 f4
    go_wp2_with fail
    refine (refTake_any _ _ _ l _ _ s0 (by omega)).mono ?_
    rintro e w5 ⟨A5, n5, c5, rfl, s5, f5, b5⟩
    replace s2 := s2.below b5
    replace s3 := s3.below b5
    replace s4 := s4.below b5
    replace b1 := b1.trans (b5.mono b1.size)
    clear b5 f5 s0
    generalize putF l a1.toNat a2 = r at *
    generalize takeF l a2 = r' at *
    have q2 := str_of s2
    have q3 := str_of s3
    have q4 := str_of s4
    have q5 := str_of s5
    go_wp2
    go_ret
    exact ⟨rfl, b1⟩
end Go.Proofs.Ytidiklgdckhpiaa
