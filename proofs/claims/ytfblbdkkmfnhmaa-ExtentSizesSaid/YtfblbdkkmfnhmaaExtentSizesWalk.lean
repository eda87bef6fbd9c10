/-
  ExtentSizes: the walk (written by gen_extsizes.py).
-/
import Derived.Test.YtfblbdkkmfnhmaaExtFew
import Derived.Test.YtfblbdkkmfnhmaaArgs
namespace Go.Wag
open Go.RowKit
theorem wrow_len {xs : List Xp} {k : Nat} {x : Xp} (h : xs[k]? = some x) : (wrow xs (k + 1)).length = (wrow xs k).length + 7 + x.l.length := by
  rw [wrow_succ h, List.length_append, List.length_append, xhead_length]
theorem wrow_all {xs : List Xp} {bts : List UInt8} {n : Nat} (hn : xs.length = n) (h : xwr xs = some bts) : bts = wrow xs n := by
  have := (xwr_some h).2.2
  unfold wrow
  rw [List.take_of_length_le (by omega)]
  exact this
theorem size_step {sz t1 t2 k m : Nat} (h : sz ≤ 1 + 3007 * k) (h1 : t1 = sz + 7) (h2 : t2 = t1 + m) (hb : ¬ (m : Int) > 3000) : t2 ≤ 1 + 3007 * (k + 1) := by omega
theorem size_s1 {sz t1 k g n : Nat} (h : sz ≤ 1 + 3007 * k) (h1 : t1 = sz + 7) (hk : k + (g + 1) = n) (hn : (n : Int) ≤ 64) : wrap64 ((sz : Int) + 7) = (t1 : Int) := by unfold wrap64; omega
theorem size_s2 {t1 t2 k m g n : Nat} (h : t2 ≤ 1 + 3007 * (k + 1)) (h2 : t2 = t1 + m) (hk : k + (g + 1) = n) (hn : (n : Int) ≤ 64) : wrap64 ((t1 : Int) + (m : Int)) = (t2 : Int) := by unfold wrap64; omega
theorem wrow_pos (xs : List Xp) (k : Nat) : 1 ≤ (wrow xs k).length := by simp [wrow]
end Go.Wag
namespace Go.Proofs.Ytfblbdkkmfnhmaa
open Go.RowKit Go.Wag
set_option linter.unusedVariables false
set_option linter.unusedSimpArgs false
set_option maxRecDepth 100000 in
set_option maxHeartbeats 8000000 in
theorem ExtentSizes_walk (a0 : Option Addr) (len0 cap0 : Nat) (a1 : Int) (w : World) (w0 : IsSts [.num .i64, .num .i64, .num .i64, .num .i64, .row .u8] w a0 len0 cap0) (w1 : (Lit.int .u16 a1).wf = true) :
    Calls Try.prog 10 #[.slice a0 len0 cap0, .int .u16 a1] w (AwakePost w) := by
  obtain ⟨xs, hla, R0⟩ := exts_of_sts w0
  have hu := bounds_u16 w1
  clear w0 w1
  have hcap0 := R0.cap
  have hbig0 := R0.big
  have hlen0 : Hid (xs.length = len0) := R0.len
  by_cases h64 : (len0 : Int) > 64
  · go_enter Try.func10, Try.ntmps10
    go_wp2_with fail
    refine (awake7_any w).mono ?_
    rintro e w1 ⟨rfl, b1⟩
    go_wp2
    go_ret
    exact ⟨rfl, b1⟩
  go_enter Try.func10, Try.ntmps10
  go_wp2_with fail
  refine (awake7_any w).mono ?_
  rintro e w1 ⟨rfl, bb⟩
  go_wp2_with fail
  go_loopg [6, 7] len0 (fun g s i wr => ∃ k sz : Nat, k + g = len0 ∧ s = .int .i64 (sz : Int) ∧ i = .int .i64 (k : Int) ∧ Hid (sz ≤ 1 + 3007 * k) ∧ Hid (sz = (wrow xs k).length) ∧ w1 = wr)
  case atStart => exact ⟨0, 1, by omega, rfl, rfl, Nat.le_refl 1, rfl, rfl⟩
  case round =>
    obtain ⟨k, sz, hk, rfl, rfl, hsz, hrow, rfl⟩ := hrel
    by_cases hlt : (k : Int) < (len0 : Int)
    · obtain ⟨g, rfl⟩ : ∃ g, gk = g + 1 := ⟨gk - 1, by omega⟩
      obtain ⟨gb, o, x, Ai, ci, rfl, _, hg, hz, c0, c1, c2, c3, c4, hS, _⟩ := (R0.below bb).ext_at (show k < len0 by omega)
      by_cases hb : (x.l.length : Int) > 3000
      · clear hz
        go_wp2
        go_ret
        exact ⟨rfl, bb⟩
      · obtain ⟨t1, ht1⟩ : ∃ t, Hid (t = sz + 7) := ⟨_, rfl⟩
        obtain ⟨t2, ht2⟩ : ∃ t, Hid (t = t1 + x.l.length) := ⟨_, rfl⟩
        have hrow2 : Hid (t2 = (wrow xs (k + 1)).length) := by unfold Hid; rw [wrow_len hz, ← hrow.out, ht2.out, ht1.out]
        have hsz2 : Hid (t2 ≤ 1 + 3007 * (k + 1)) := size_step hsz.out ht1.out ht2.out hb
        have s1 : wrap64 ((sz : Int) + 7) = (t1 : Int) := size_s1 hsz.out ht1.out hk h64
        have s2 : wrap64 ((t1 : Int) + (x.l.length : Int)) = (t2 : Int) := size_s2 hsz2.out ht2.out hk h64
        have s3 : IntKind.i64.wrap ((sz : Int) + 7) = (t1 : Int) := (IntWalk.i64_left _).trans s1
        have s4 : IntKind.i64.wrap ((t1 : Int) + (x.l.length : Int)) = (t2 : Int) := (IntWalk.i64_left _).trans s2
        clear hz
        go_wp2
        go_roundg g
        case measure => omega
        case rel => exact ⟨k + 1, t2, by omega, by first | rfl | (simp; done), by first | rfl | (simp; done) | (simp; exact wrap64_small (by omega) (by omega)), hsz2, hrow2, rfl⟩
    · obtain rfl : k = len0 := by omega
      cases hw : xwr xs with
      | none =>
        have hE := eWrite_any xs a0 k cap0 w1 (R0.below bb) hla
        rw [hw] at hE
        go_wp2_with fail
        refine hE.mono ?_
        clear hE hw
        rintro e w3 ⟨A3, n3, c3, rfl, S3, _, b3⟩
        obtain rfl : 0 = n3 := S3.len8
        replace bb := bb.trans (b3.mono bb.size)
        try simp only [errOf, Option.isSome_none, Bool.false_eq_true, if_false]
        go_wp2
        go_ret
        exact ⟨rfl, bb⟩
      | some bts =>
        have hbt : Hid (bts.length = sz) := by unfold Hid; rw [wrow_all hlen0.out hw, hrow.out]
        have hp1 : 1 ≤ sz := by rw [hrow.out]; exact wrow_pos xs k
        obtain ⟨q, hq⟩ : ∃ q : Nat, a1 % (sz : Int) = (q : Int) := ⟨(a1 % (sz : Int)).toNat, by have := Int.emod_nonneg a1 (show (sz : Int) ≠ 0 by omega); omega⟩
        have hq2 : q < sz := by have := Int.emod_lt_of_pos a1 (show 0 < (sz : Int) by omega); omega
        have hq3 : q ≤ 10000000000000 := by have h1 := xwr_max hw; have h2 := hbt.out; omega
        have hqt : Int.tmod a1 (sz : Int) = (q : Int) := by rw [Int.tmod_eq_emod_of_nonneg (by omega)]; exact hq
        have hmx : (if (1 : Int) < (sz : Int) then (sz : Int) else 1) = (sz : Int) := by split <;> omega
        have hne : ¬ (sz : Int) = 0 := by omega
        have ha1 : wrap64 a1 = a1 := by unfold wrap64; omega
        have hcutn := Lib.hid (xrd_cut hw (m := q) (by rw [hbt.out]; exact hq2))
        clear hq
        go_wp2_with fail
        refine (BytesErr.ok (eWrite_any xs a0 k cap0 w1 (R0.below bb) hla) hw).mono ?_
        clear hw
        rintro e w3 ⟨A3, n3, c3, rfl, S3, _, b3⟩
        obtain rfl : sz = n3 := by rw [← hbt.out]; exact S3.len8
        replace bb := bb.trans (b3.mono bb.size)
        have hcap3 := S3.cap
        have hS4 := S3.upto (m := q) (Nat.le_of_lt hq2)
        rw [← List.map_take] at hS4
        have hC0 := eRead_any A3 q c3 _ w3 hS4 hq3
        rw [hcutn.out] at hC0
        try simp only [errOf, Option.isSome_some, if_true]
        go_wp2_with fail
        refine hC0.mono ?_
        clear hC0
        rintro e w4 ⟨A4, m4, c4, hm4, rfl, _, b4⟩
        obtain rfl : m4 = 0 := hm4.out
        replace bb := bb.trans (b4.mono bb.size)
        try simp only [errOf, Option.isSome_none, Bool.false_eq_true, if_false]
        go_wp2
        go_ret
        exact ⟨rfl, bb⟩
end Go.Proofs.Ytfblbdkkmfnhmaa
