/-
  The walk of LePacks.
-/
import Derived.Test.YtidiklgdckhpiaaLeAwake
namespace Go.Proofs.Ytidiklgdckhpiaa
open Go.RowKit Go.Wag
set_option linter.unusedVariables false

theorem Same_eq (A : Option Addr) (n c : Nat) (xs : List UInt64) (A2 : Option Addr) (n2 c2 : Nat) (w : World) (h : Sl w A n c (xs.map v64)) (h2 : Sl w A2 n2 c2 (xs.map v64)) (hn : n ≤ 100000000000) :
    Calls Try.prog 19 #[.slice A n c, .slice A2 n2 c2] w (AwakePost w) :=
  (Same_any A n c xs A2 n2 c2 xs w h h2 hn).mono fun e w' hp => by
    obtain ⟨he, hb⟩ := hp.below
    exact ⟨by rw [he]; simp, hb⟩

theorem unpackF_len : ∀ (l b : List UInt8) (out : List UInt64), unpackF l b = some out → out.length = l.length
  | [], b, out, h => by
    simp only [unpackF] at h
    split at h
    · obtain rfl : [] = out := by simpa using h
      rfl
    · cases h
  | c :: r, b, out, h => by
    simp only [unpackF] at h
    split at h
    · cases h
    · obtain ⟨u, hu, rfl⟩ := Option.map_eq_some_iff.1 h
      simp [unpackF_len r _ u hu]
theorem unpackF_getD_len (l b : List UInt8) : ((unpackF l b).getD []).length ≤ l.length := by
  cases h : unpackF l b with
  | none => simp
  | some out => simp [unpackF_len l b out h]

set_option maxHeartbeats 1000000 in
theorem LePacks_walk (a0 : ByteArray) (a1 : Option Addr) (len1 cap1 : Nat) (z1 : List Int) (a2 : Option Addr) (len2 cap2 : Nat) (z2 : List Int) (w : World) (w0 : a0.size ≤ maxLen) (w1 : IsRow .u64 w a1 len1 cap1 z1) (w2 : IsRow .u8 w a2 len2 cap2 z2) :
    Calls Try.prog 4 #[.string a0, .slice a1 len1 cap1, .slice a2 len2 cap2] w (AwakePost w) := by
  obtain ⟨ns, s1⟩ := w1.nums
  obtain ⟨l, s0⟩ := w2.bytes
  have HZ : Hid (a0.data.toList.length = a0.size) := by show a0.data.toList.length = a0.size; simp
  clear w0 w1 w2
  by_cases h1 : (60 : Int) < (a0.size : Int)
  · go_enter Try.func4, Try.ntmps4
    go_wp2_with fail
    refine (awake_any _).mono ?_
    rintro e w1 ⟨rfl, b1⟩
    go_wp2
    go_ret
    exact ⟨rfl, b1⟩
  by_cases h2 : (60 : Int) < (len1 : Int)
  · go_enter Try.func4, Try.ntmps4
    go_wp2_with fail
    refine (awake_any _).mono ?_
    rintro e w1 ⟨rfl, b1⟩
    go_wp2
    go_ret
    exact ⟨rfl, b1⟩
  by_cases h3 : (300 : Int) < (len2 : Int)
  · go_enter Try.func4, Try.ntmps4
    go_wp2_with fail
    refine (awake_any _).mono ?_
    rintro e w1 ⟨rfl, b1⟩
    go_wp2
    go_ret
    exact ⟨rfl, b1⟩
  go_enter Try.func4, Try.ntmps4
  go_wp2_with fail
  refine (awake_any _).mono ?_
  rintro e w1 ⟨rfl, b1⟩
  replace s0 := s0.below b1
  replace s1 := s1.below b1
  go_wp2_with fail
  refine (Pack_any _ _ _ _ ns _ s1 (by omega)).mono ?_
  rintro e w2 ⟨A2, n2, c2, rfl, s2, f2, b2⟩
  replace s0 := s0.below b2
  replace s1 := s1.below b2
  replace b1 := b1.trans (b2.mono b1.size)
  clear b2 f2
  go_wp2_with fail
  refine (refPack_any _ _ _ _ ns _ s1 (by omega)).mono ?_
  rintro e w3 ⟨A3, n3, c3, rfl, s3, f3, b3⟩
  replace s0 := s0.below b3
  replace s2 := s2.below b3
  replace b1 := b1.trans (b3.mono b1.size)
  clear b3 f3 s1
  go_wp2_with fail
  refine (Unpack_any _ _ _ _ l _ s0 (by omega)).mono ?_
  rintro e w4 ⟨A4, n4, c4, rfl, s4, f4, b4⟩
  replace s0 := s0.below b4
  replace s2 := s2.below b4
  replace s3 := s3.below b4
  replace b1 := b1.trans (b4.mono b1.size)
  clear b4 f4
  go_wp2_with fail
  refine (refUnpack_any _ _ _ _ l _ s0 (by omega) (by omega)).mono ?_
  rintro e w5 ⟨A5, n5, c5, rfl, s5, f5, b5⟩
  replace s2 := s2.below b5
  replace s3 := s3.below b5
  replace s4 := s4.below b5
  replace b1 := b1.trans (b5.mono b1.size)
  clear b5 f5 s0
  have hn4 : n4 ≤ 100000000000 := by
    have h4 := s4.len64
    have h5 := unpackF_getD_len a0.data.toList l
    rw [HZ.out] at h5
    omega
  generalize packF a0.data.toList ns = r at *
  generalize unpackF a0.data.toList l = r' at *
  have q2 := str_of s2
  have q3 := str_of s3
  go_wp2_with fail
  refine (Same_eq _ _ _ _ _ _ _ _ s4 s5 hn4).mono ?_
  rintro e w6 ⟨rfl, b6⟩
  go_wp2
  go_ret
  exact ⟨rfl, b1.trans (b6.mono b1.size)⟩
end Go.Proofs.Ytidiklgdckhpiaa
