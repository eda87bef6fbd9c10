/-
  ExtentBack: the walk (written by gen_extback.py).
-/
import Derived.Test.YtfblbdkkmfnhmaaExtFew
namespace Go.Proofs.Ytfblbdkkmfnhmaa
open Go.RowKit Go.Wag
set_option linter.unusedVariables false
set_option linter.unusedSimpArgs false
theorem xwr_nil : xwr [] = some [0] := by rfl
set_option maxRecDepth 100000 in
set_option maxHeartbeats 8000000 in
theorem ExtentBack_walk (a0 : Option Addr) (len0 cap0 : Nat) (a1 : Option Addr) (len1 cap1 : Nat) (z1 : List Int) (w : World) (w0 : IsSts [.num .i64, .num .i64, .num .i64, .num .i64, .row .u8] w a0 len0 cap0) (w1 : IsRow .u8 w a1 len1 cap1 z1) :
    Calls Try.prog 6 #[.slice a0 len0 cap0, .slice a1 len1 cap1] w (AwakePost w) := by
  obtain ⟨xs, hla, R0⟩ := exts_of_sts w0
  obtain ⟨b, S1⟩ := w1.bytes
  clear w0 w1
  have hcap0 := R0.cap
  have hbig0 := R0.big
  have hcap1 := S1.cap
  have hbig1 := S1.big
  have hlen0 : Hid (xs.length = len0) := R0.len
  by_cases h5 : (len1 : Int) > 5000
  · go_enter Try.func6, Try.ntmps6
    go_wp2_with fail
    refine (awake7_any w).mono ?_
    rintro e w1 ⟨rfl, b1⟩
    go_wp2_with fail
    refine (few_any xs a0 len0 cap0 w1 (R0.below b1)).mono ?_
    rintro e w2 ⟨r, rfl, hr, rfl⟩
    clear hr
    cases r
    · go_wp2
      go_ret
      exact ⟨rfl, b1⟩
    · go_wp2
      go_ret
      exact ⟨rfl, b1⟩
  have h5' : len1 ≤ 10000000000000 := by omega
  go_enter Try.func6, Try.ntmps6
  go_wp2_with fail
  refine (awake7_any w).mono ?_
  rintro e w1 ⟨rfl, bb⟩
  go_wp2_with fail
  refine (few_any xs a0 len0 cap0 w1 (R0.below bb)).mono ?_
  rintro e w2 ⟨r, rfl, hr, rfl⟩
  clear hr
  cases r
  · go_wp2
    go_ret
    exact ⟨rfl, bb⟩
  cases hw : xwr xs with
  | none =>
    have hE := eWrite_any xs a0 len0 cap0 w1 (R0.below bb) hla
    rw [hw] at hE
    go_wp2_with fail
    refine hE.mono ?_
    clear hE hw
    rintro e w3 ⟨A3, n3, c3, rfl, S3, _, b3⟩
    obtain rfl : 0 = n3 := S3.len8
    replace bb := bb.trans (b3.mono bb.size)
    have hC0 := eRead_any A3 0 c3 [] w3 S3 (by omega)
    rw [aw_none] at hC0
    try simp only [errOf, Option.isSome_none, Bool.false_eq_true, if_false]
    go_wp2_with fail
    refine hC0.mono ?_
    clear hC0
    rintro e w4 ⟨A4, m4, c4, hm4, rfl, _, b4⟩
    obtain rfl : m4 = 0 := hm4.out
    replace bb := bb.trans (b4.mono bb.size)
    have hC0 := eRead_any a1 len1 cap1 b w4 (S1.below bb) h5'
    cases hr : xrd b with
    | none =>
      rw [hr] at hC0
      go_wp2_with fail
      refine hC0.mono ?_
      clear hC0
      rintro e w8 ⟨A8, m8, c8, hm8, rfl, R8, b8⟩
      obtain rfl : m8 = 0 := hm8.out
      replace bb := bb.trans (b8.mono bb.size)
      try simp only [errOf, Option.isSome_none, Bool.false_eq_true, if_false]
      skip
      go_wp2_with fail
      refine (BytesErr.ok (eWrite_any [] A8 0 c8 w8 R8 (by simp)) xwr_nil).mono ?_
      rintro e w9 ⟨A9, n9, c9, rfl, _, _, b9⟩
      replace bb := bb.trans (b9.mono bb.size)
      go_wp2
      go_ret
      exact ⟨rfl, bb⟩
    | some ys =>
      rw [hr] at hC0
      have hwr := xwr_rd hr
      have hla2 := xrd_la hr
      go_wp2_with fail
      refine hC0.mono ?_
      clear hC0 hr
      rintro e w8 ⟨A8, m8, c8, hm8, rfl, R8, b8⟩
      replace bb := bb.trans (b8.mono bb.size)
      dsimp only [Option.getD_some] at R8
      try simp only [errOf, Option.isSome_some, if_true]
      go_wp2_with fail
      refine (BytesErr.ok (eWrite_any ys A8 m8 c8 w8 R8 hla2) hwr).mono ?_
      clear hwr hla2
      rintro e w9 ⟨A9, n9, c9, rfl, S9, _, b9⟩
      replace bb := bb.trans (b9.mono bb.size)
      have e9 := str_of S9
      have e1 := str_of (S1.below bb)
      go_wp2
      go_ret
      exact ⟨rfl, bb⟩
  | some bts =>
    have hmx := xwr_max hw
    have hrw := xrd_wr hw
    go_wp2_with fail
    refine (BytesErr.ok (eWrite_any xs a0 len0 cap0 w1 (R0.below bb) hla) hw).mono ?_
    clear hw
    rintro e w3 ⟨A3, n3, c3, rfl, S3, _, b3⟩
    have hn3 : bts.length = n3 := S3.len8
    replace bb := bb.trans (b3.mono bb.size)
    have hC0 := eRead_any A3 n3 c3 bts w3 S3 (by omega)
    rw [hrw] at hC0
    clear hrw hmx hn3
    go_wp2_with fail
    refine hC0.mono ?_
    clear hC0
    rintro e w4 ⟨A4, m4, c4, hm4, rfl, R4, b4⟩
    replace bb := bb.trans (b4.mono bb.size)
    dsimp only [Option.getD_some] at R4 hm4
    try simp only [errOf, Option.isSome_some, if_true]
    obtain rfl : m4 = len0 := hm4.out.trans hlen0.out
    go_wp2_with fail
    refine (fAll_any xs a0 m4 cap0 A4 c4 w4 (R0.below bb) R4).mono ?_
    rintro e w5 ⟨rfl, b5⟩
    replace bb := bb.trans (b5.mono bb.size)
    have hC0 := eRead_any a1 len1 cap1 b w5 (S1.below bb) h5'
    cases hr : xrd b with
    | none =>
      rw [hr] at hC0
      go_wp2_with fail
      refine hC0.mono ?_
      clear hC0
      rintro e w8 ⟨A8, m8, c8, hm8, rfl, R8, b8⟩
      obtain rfl : m8 = 0 := hm8.out
      replace bb := bb.trans (b8.mono bb.size)
      try simp only [errOf, Option.isSome_none, Bool.false_eq_true, if_false]
      skip
      go_wp2_with fail
      refine (BytesErr.ok (eWrite_any [] A8 0 c8 w8 R8 (by simp)) xwr_nil).mono ?_
      rintro e w9 ⟨A9, n9, c9, rfl, _, _, b9⟩
      replace bb := bb.trans (b9.mono bb.size)
      go_wp2
      go_ret
      exact ⟨rfl, bb⟩
    | some ys =>
      rw [hr] at hC0
      have hwr := xwr_rd hr
      have hla2 := xrd_la hr
      go_wp2_with fail
      refine hC0.mono ?_
      clear hC0 hr
      rintro e w8 ⟨A8, m8, c8, hm8, rfl, R8, b8⟩
      replace bb := bb.trans (b8.mono bb.size)
      dsimp only [Option.getD_some] at R8
      try simp only [errOf, Option.isSome_some, if_true]
      go_wp2_with fail
      refine (BytesErr.ok (eWrite_any ys A8 m8 c8 w8 R8 hla2) hwr).mono ?_
      clear hwr hla2
      rintro e w9 ⟨A9, n9, c9, rfl, S9, _, b9⟩
      replace bb := bb.trans (b9.mono bb.size)
      have e9 := str_of S9
      have e1 := str_of (S1.below bb)
      go_wp2
      go_ret
      exact ⟨rfl, bb⟩
end Go.Proofs.Ytfblbdkkmfnhmaa
