/-
  Contracts of package extent: Check, Bytes and what they call.
-/
import Derived.Test.YtagageidiebogaaExt0
import Derived.Test.YtagageidiebogaaExtMath
import Derived.Test.YtagageidiebogaaLePack
import Derived.Test.YtagageidiebogaaLeAwake
import Derived.Test.YtagageidiebogaaDrawn
import Derived.Deep.QuietTactic
import Derived.BigQuiet
namespace Go.Wag
open Go.RowKit
set_option linter.unusedVariables false
set_option maxRecDepth 20000
/-- How many bytes of data so many blocks of a kind have. -/
def dbF (k n : Int) : Int := if k = 2 then wrap64 (n * 32) else 0
theorem dbF_data {n : Int} (h0 : 0 ≤ n) (h1 : n ≤ 100000) : dbF 2 n = 32 * n := by
  unfold dbF wrap64
  rw [if_pos rfl]
  omega
theorem dbF_none {k n : Int} (h : k ≠ 2) : dbF k n = 0 := by
  unfold dbF
  rw [if_neg h]
end Go.Wag
namespace Go.Proofs.Ytagageidiebogaa
open Go.RowKit Go.Wag
set_option linter.unusedVariables false
set_option maxRecDepth 20000
theorem iExt : ∃ i, Try.prog.info? 41 = some i ∧ i.zero = some (.agg #[.int .i64 0, .int .i64 0, .int .i64 0, .int .i64 0, .slice none 0 0]) ∧ i.size = 5 ∧ i.bytes = 56 := by
  refine ⟨_, rfl, ?_, ?_, ?_⟩
  · kernel_rfl
  · kernel_rfl
  · kernel_rfl
theorem eData_any (k n : Int) (w : World) : Calls Try.prog 46 #[.int .i64 k, .int .i64 n] w fun e w' => e = .returned (.int .i64 (dbF k n)) ∧ w' = w := by
  by_cases hk : k = 2
  · subst hk
    go_enter Try.func46, Try.ntmps46
    go_wp2
    go_ret
    exact ⟨rfl, rfl⟩
  · have h2 : (k != 2) = true := by simpa using hk
    rw [dbF_none hk]
    go_enter Try.func46, Try.ntmps46
    go_wp2
    go_ret
    exact ⟨rfl, rfl⟩
set_option maxHeartbeats 1000000 in
theorem eCheck_any (la n k g : Int) (A : Option Addr) (m c : Nat) (w : World) (hla : la ≤ 9223372036854775807) :
    Calls Try.prog 38 #[.agg #[.int .i64 la, .int .i64 n, .int .i64 k, .int .i64 g, .slice A m c]] w fun e w' => e = .returned (.bool (xchk la n k g m)) ∧ Below w.heap.size w w' := by
  by_cases h1 : 0 ≤ la ∧ 1 ≤ n ∧ n ≤ 64 - la
  · obtain ⟨a1, a2, a3⟩ := h1
    have b1 : ¬ la < 0 := by omega
    have b2 : ¬ n < 1 := by omega
    have b3 : wrap64 (64 - la) = 64 - la := by unfold wrap64; omega
    have b4 : ¬ n > 64 - la := by omega
    by_cases h2 : 0 ≤ k ∧ k ≤ 2 ∧ 0 ≤ g ∧ g ≤ 2147483647
    · obtain ⟨a4, a5, a6, a7⟩ := h2
      have b5 : ¬ k < 0 := by omega
      have b6 : ¬ k > 2 := by omega
      have b7 : ¬ g < 0 := by omega
      have b8 : ¬ g > 2147483647 := by omega
      have hr : xchk la n k g m = ((m : Int) == dbF k n) := by
        rw [Bool.eq_iff_iff, beq_iff_eq]
        unfold xchk
        rw [decide_eq_true_iff]
        by_cases hk : k = 2
        · subst hk
          rw [dbF_data (by omega) (by omega)]
          omega
        · rw [dbF_none hk]
          omega
      rw [hr]
      clear hr
      go_enter Try.func38, Try.ntmps38
      go_wp2_with fail
      go_quiet ((go_at_call 46; exact Calls.quiet_of_same (eData_any _ _ _)))
      go_wp2
      go_ret
      exact ⟨rfl, drewN_below ((Below.refl _ _).alloc (Nat.le_refl _) _) _⟩
    · have hr : xchk la n k g m = false := by unfold xchk; exact decide_eq_false (by omega)
      rw [hr]
      clear hr
      by_cases c1 : k < 0
      · go_enter Try.func38, Try.ntmps38
        go_wp2_with fail
        go_ret
        exact ⟨rfl, (Below.refl _ _).alloc (Nat.le_refl _) _⟩
      by_cases c2 : k > 2
      · go_enter Try.func38, Try.ntmps38
        go_wp2_with fail
        go_ret
        exact ⟨rfl, (Below.refl _ _).alloc (Nat.le_refl _) _⟩
      by_cases c3 : g < 0
      · go_enter Try.func38, Try.ntmps38
        go_wp2_with fail
        go_ret
        exact ⟨rfl, (Below.refl _ _).alloc (Nat.le_refl _) _⟩
      have c4 : g > 2147483647 := by omega
      go_enter Try.func38, Try.ntmps38
      go_wp2_with fail
      go_ret
      exact ⟨rfl, (Below.refl _ _).alloc (Nat.le_refl _) _⟩
  · have hr : xchk la n k g m = false := by unfold xchk; exact decide_eq_false (by omega)
    rw [hr]
    clear hr
    by_cases c1 : la < 0
    · go_enter Try.func38, Try.ntmps38
      go_wp2_with fail
      go_ret
      exact ⟨rfl, (Below.refl _ _).alloc (Nat.le_refl _) _⟩
    by_cases c2 : n < 1
    · go_enter Try.func38, Try.ntmps38
      go_wp2_with fail
      go_ret
      exact ⟨rfl, (Below.refl _ _).alloc (Nat.le_refl _) _⟩
    have b3 : wrap64 (64 - la) = 64 - la := by unfold wrap64; omega
    have c3 : n > 64 - la := by omega
    go_enter Try.func38, Try.ntmps38
    go_wp2_with fail
    go_ret
    exact ⟨rfl, (Below.refl _ _).alloc (Nat.le_refl _) _⟩

/-- New bytes. -/
def ByNew (w : World) (l : List UInt8) (e : Ending) (w' : World) : Prop :=
  ∃ A n c, e = .returned (.slice A n c) ∧ Nw 5 w w' A n c (l.map v8) ∧ Below w.heap.size w w'
theorem cpy_none (n m : Nat) (z : Value) (hm : m = 0) : ([] : List Value).take n ++ (List.replicate n z).drop m = List.replicate n z := by
  subst hm
  simp
theorem xbytes_no {x : Xp} (h : x.ok = false) : xbytes x = [] := by simp [xbytes, h]
theorem xbytes_yes {x : Xp} (h : x.ok = true) : xbytes x = xby x := by simp [xbytes, h]

set_option maxHeartbeats 1000000 in
theorem eBytes_any (la n k g : Int) (A : Option Addr) (m c : Nat) (l : List UInt8) (w : World) (hla : la ≤ 9223372036854775807) (h : Sl w A m c (l.map v8)) :
    Calls Try.prog 20 #[.agg #[.int .i64 la, .int .i64 n, .int .i64 k, .int .i64 g, .slice A m c]] w (ByNew w (xbytes ⟨la, n, k, g, l⟩)) := by
  have hl : l.length = m := h.len8
  have V := Blk.new w #[.int .i64 la, .int .i64 n, .int .i64 k, .int .i64 g, .slice A m c] 41
  have bb := (Below.refl w.heap.size w).alloc (Nat.le_refl _) (.cells #[.int .i64 la, .int .i64 n, .int .i64 k, .int .i64 g, .slice A m c] 41)
  replace h := h.alloc (.cells #[.int .i64 la, .int .i64 n, .int .i64 k, .int .i64 g, .slice A m c] 41)
  have hok : (⟨la, n, k, g, l⟩ : Xp).ok = xchk la n k g m := by simp [Xp.ok, hl]
  cases hr : xchk la n k g m
  · rw [xbytes_no (hok.trans hr)]
    go_enter Try.func20, Try.ntmps20
    obtain ⟨q0, q1, q2, q3, q4, _⟩ := V.five
    go_wp2_with fail
    refine (eCheck_any la n k g A m c _ hla).mono ?_
    rintro e w1 ⟨rfl, b1⟩
    rw [hr]
    go_wp2
    go_ret
    exact ⟨none, 0, 0, rfl, Nw.nil _ _ _, bb.trans (b1.mono bb.size)⟩
  · have hx := xchk_all hr
    rw [xbytes_yes (hok.trans hr)]
    obtain ⟨s, hs⟩ : ∃ s : Nat, Hid (32 * n = (s : Int)) := ⟨(32 * n).toNat, by unfold Hid; omega⟩
    have hs2 : s ≤ 2048 := by have := hs.out; omega
    have e1 : wrap64 (n * 32) = (s : Int) := by have := hs.out; unfold wrap64; omega
    obtain ⟨i0, hi, hz0, hz1, hz2⟩ := info_parts i5
    have hmk := fun W => run_mk (P := Try.prog) 37 5 i0 (.int .u8 0) 1 Try.underlying37 hi hz0 hz1 hz2 rfl .i64 .i64 (s : Int) (s : Int) s s rfl rfl (by omega) (by omega) (by omega) W
    have hby : Hid ((l.map v8).take s ++ (List.replicate s (Value.int .u8 0)).drop m = (xby ⟨la, n, k, g, l⟩).map v8) := by
      unfold Hid xby
      have := hs.out
      by_cases hk : k = 2
      · rw [if_pos hk]
        have : m = s := by have := hx.2.2.2.2.2.2.2.1 hk; omega
        subst this
        exact cpy_full _ _ _ (by simpa using hl)
      · rw [if_neg hk]
        have h0 : m = 0 := by have := hx.2.2.2.2.2.2.2.2 hk; omega
        have : l = [] := List.length_eq_zero_iff.1 (hl.trans h0)
        subst this
        have e : (32 * n).toNat = s := by omega
        simp only [List.map_nil]
        rw [cpy_none _ _ _ h0, List.map_replicate, e]
        rfl
    clear hx hok
    go_enter Try.func20, Try.ntmps20
    obtain ⟨q0, q1, q2, q3, q4, _⟩ := V.five
    go_wp2_with fail
    refine (eCheck_any la n k g A m c _ hla).mono ?_
    rintro e w1 ⟨rfl, b1⟩
    rw [hr]
    replace V := V.under b1
    replace bb := bb.trans (b1.mono bb.size)
    replace h := (h.below b1).alloc (.cells (mk0 (.int .u8 0) s) 5)
    clear q0 q1 q2 q3 q4
    have V2 := V.alloc (.cells (mk0 (.int .u8 0) s) 5)
    have HO := Own.made w1 (.int .u8 0) 5 s s (by omega) (by omega)
    obtain ⟨q0, q1, q2, q3, q4, _⟩ := V.five
    obtain ⟨p0, p1, p2, p3, p4, _⟩ := V2.five
    go_wp2_with (with_reducible refine wpList_cpy rfl (.tmp 11) (.tmp 13) 37 37 rfl rfl HO Try.underlying37 sz5 _ _ _ _ rfl h (oneCell8 l) ?_
                 intro w2 hw2)
    go_ret
    rw [hby.out] at hw2
    exact ⟨_, _, _, rfl, Nw.mono (w1 := w1) hw2.own bb.size, bb.trans (hw2.below_made.mono bb.size)⟩
end Go.Proofs.Ytagageidiebogaa
