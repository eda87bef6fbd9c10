/-
  Contracts of the document's Check, Copy and Bytes of extents.
-/
import Derived.Test.YtagageidiebogaaExt1
namespace Go.Proofs.Ytagageidiebogaa
open Go.RowKit Go.Wag
set_option linter.unusedVariables false
set_option maxRecDepth 20000

set_option maxHeartbeats 1000000 in
theorem fCheck_any (la n k g : Int) (A : Option Addr) (m c : Nat) (w : World) :
    Calls Try.prog 39 #[.agg #[.int .i64 la, .int .i64 n, .int .i64 k, .int .i64 g, .slice A m c]] w fun e w' => e = .returned (.bool (xchk la n k g m)) ∧ Below w.heap.size w w' := by
  by_cases h1 : 0 ≤ la ∧ la ≤ 64 ∧ 1 ≤ n ∧ n ≤ 64 - la
  · obtain ⟨a1, a0, a2, a3⟩ := h1
    have b1 : ¬ la < 0 := by omega
    have b0 : ¬ la > 64 := by omega
    have b2 : ¬ n < 1 := by omega
    have b3 : wrap64 (64 - la) = 64 - la := by unfold wrap64; omega
    have b4 : ¬ n > 64 - la := by omega
    by_cases h2 : 0 ≤ k ∧ k ≤ 2 ∧ 0 ≤ g ∧ g < 2147483648
    · obtain ⟨a4, a5, a6, a7⟩ := h2
      have b5 : ¬ k < 0 := by omega
      have b6 : ¬ k > 2 := by omega
      have b7 : ¬ g < 0 := by omega
      have b8 : ¬ g ≥ 2147483648 := by omega
      have b9 : wrap64 (32 * n) = 32 * n := by unfold wrap64; omega
      have hr : xchk la n k g m = if k = 2 then decide ((m : Int) = 32 * n) else decide ((m : Int) = 0) := by
        rw [Bool.eq_iff_iff]
        unfold xchk
        rw [decide_eq_true_iff]
        by_cases hk : k = 2
        · rw [if_pos hk, decide_eq_true_iff]
          omega
        · rw [if_neg hk, decide_eq_true_iff]
          omega
      rw [hr]
      clear hr
      by_cases hk : k = 2
      · rw [if_pos hk]
        have c1 : (k == 2) = true := by simpa using hk
        go_enter Try.func39, Try.ntmps39
        go_wp2_with fail
        go_ret
        exact ⟨congrArg (fun b => Ending.returned (.bool b)) (by rw [Bool.eq_iff_iff]; simp), (Below.refl _ _).alloc (Nat.le_refl _) _⟩
      · rw [if_neg hk]
        have c1 : (k == 2) = false := by simpa using hk
        go_enter Try.func39, Try.ntmps39
        go_wp2_with fail
        go_ret
        exact ⟨congrArg (fun b => Ending.returned (.bool b)) (by rw [Bool.eq_iff_iff]; simp), (Below.refl _ _).alloc (Nat.le_refl _) _⟩
    · have hr : xchk la n k g m = false := by unfold xchk; exact decide_eq_false (by omega)
      rw [hr]
      clear hr
      by_cases c1 : k < 0
      · go_enter Try.func39, Try.ntmps39
        go_wp2_with fail
        go_ret
        exact ⟨rfl, (Below.refl _ _).alloc (Nat.le_refl _) _⟩
      by_cases c2 : k > 2
      · go_enter Try.func39, Try.ntmps39
        go_wp2_with fail
        go_ret
        exact ⟨rfl, (Below.refl _ _).alloc (Nat.le_refl _) _⟩
      by_cases c3 : g < 0
      · go_enter Try.func39, Try.ntmps39
        go_wp2_with fail
        go_ret
        exact ⟨rfl, (Below.refl _ _).alloc (Nat.le_refl _) _⟩
      have c4 : g ≥ 2147483648 := by omega
      go_enter Try.func39, Try.ntmps39
      go_wp2_with fail
      go_ret
      exact ⟨rfl, (Below.refl _ _).alloc (Nat.le_refl _) _⟩
  · have hr : xchk la n k g m = false := by unfold xchk; exact decide_eq_false (by omega)
    rw [hr]
    clear hr
    by_cases c1 : la < 0
    · go_enter Try.func39, Try.ntmps39
      go_wp2_with fail
      go_ret
      exact ⟨rfl, (Below.refl _ _).alloc (Nat.le_refl _) _⟩
    by_cases c0 : la > 64
    · go_enter Try.func39, Try.ntmps39
      go_wp2_with fail
      go_ret
      exact ⟨rfl, (Below.refl _ _).alloc (Nat.le_refl _) _⟩
    by_cases c2 : n < 1
    · go_enter Try.func39, Try.ntmps39
      go_wp2_with fail
      go_ret
      exact ⟨rfl, (Below.refl _ _).alloc (Nat.le_refl _) _⟩
    have b3 : wrap64 (64 - la) = 64 - la := by unfold wrap64; omega
    have c3 : n > 64 - la := by omega
    go_enter Try.func39, Try.ntmps39
    go_wp2_with fail
    go_ret
    exact ⟨rfl, (Below.refl _ _).alloc (Nat.le_refl _) _⟩

theorem xby_plain {la n k g : Int} {l : List UInt8} (hk : k ≠ 2) {s : Nat} (hs : 32 * n = (s : Int)) : (xby ⟨la, n, k, g, l⟩).map v8 = List.replicate s (Value.int .u8 0) := by
  unfold xby
  rw [if_neg hk, List.map_replicate]
  have e : (32 * n).toNat = s := by omega
  simp only [e]
  rfl
theorem xby_data {la n g : Int} {l : List UInt8} : xby ⟨la, n, 2, g, l⟩ = l := by
  unfold xby
  rw [if_pos rfl]

set_option maxHeartbeats 1000000 in
theorem fBytes_any (la n k g : Int) (A : Option Addr) (m c : Nat) (l : List UInt8) (w : World) (h : Sl w A m c (l.map v8)) :
    Calls Try.prog 41 #[.agg #[.int .i64 la, .int .i64 n, .int .i64 k, .int .i64 g, .slice A m c]] w (ByNew w (xbytes ⟨la, n, k, g, l⟩)) := by
  have hl : l.length = m := h.len8
  have V := Blk.new w #[.int .i64 la, .int .i64 n, .int .i64 k, .int .i64 g, .slice A m c] 41
  have bb := (Below.refl w.heap.size w).alloc (Nat.le_refl _) (.cells #[.int .i64 la, .int .i64 n, .int .i64 k, .int .i64 g, .slice A m c] 41)
  replace h := h.alloc (.cells #[.int .i64 la, .int .i64 n, .int .i64 k, .int .i64 g, .slice A m c] 41)
  have hok : (⟨la, n, k, g, l⟩ : Xp).ok = xchk la n k g m := by simp [Xp.ok, hl]
  obtain ⟨i0, hi, hz0, hz1, hz2⟩ := info_parts i5
  cases hr : xchk la n k g m
  · rw [xbytes_no (hok.trans hr)]
    go_enter Try.func41, Try.ntmps41
    obtain ⟨q0, q1, q2, q3, q4, _⟩ := V.five
    go_wp2_with fail
    refine (fCheck_any la n k g A m c _).mono ?_
    rintro e w1 ⟨rfl, b1⟩
    rw [hr]
    go_wp2
    go_ret
    exact ⟨none, 0, 0, rfl, Nw.nil _ _ _, bb.trans (b1.mono bb.size)⟩
  · have hx := xchk_all hr
    rw [xbytes_yes (hok.trans hr)]
    obtain ⟨s, hs⟩ : ∃ s : Nat, Hid (32 * n = (s : Int)) := ⟨(32 * n).toNat, by unfold Hid; omega⟩
    have hs2 : s ≤ 2048 := by have := hs.out; omega
    have hm2 : m ≤ 2048 := by
      by_cases hk : k = 2
      · have := hx.2.2.2.2.2.2.2.1 hk; omega
      · have := hx.2.2.2.2.2.2.2.2 hk; omega
    have e1 : wrap64 (32 * n) = (s : Int) := by have := hs.out; unfold wrap64; omega
    clear hx hok
    by_cases hk : k = 2
    · subst hk
      rw [xby_data]
      go_enter Try.func41, Try.ntmps41
      obtain ⟨q0, q1, q2, q3, q4, _⟩ := V.five
      go_wp2_with fail
      refine (fCheck_any la n 2 g A m c _).mono ?_
      rintro e w1 ⟨rfl, b1⟩
      rw [hr]
      replace V := V.under b1
      replace bb := bb.trans (b1.mono bb.size)
      replace h := (h.below b1).alloc (.cells #[] 5)
      clear q0 q1 q2 q3 q4
      have V2 := V.alloc (.cells #[] 5)
      have HO := Own.empty w1 5
      obtain ⟨q0, q1, q2, q3, q4, _⟩ := V.five
      obtain ⟨p0, p1, p2, p3, p4, _⟩ := V2.five
      go_wp2_with (at_builtin; refine wpList_app rfl (.tmp 11) (.tmp 13) 37 rfl rfl HO i0 (.int .u8 0) 1 Try.underlying37 hi hz0 hz1 hz2 rfl _ _ _ _ rfl h (oneCell8 _) (by omega) (by omega) ?_; intro A3 c3 w3 hw3)
      go_ret
      rw [List.nil_append, Nat.zero_add] at hw3
      exact ⟨_, _, _, rfl, Nw.mono (w1 := w1) hw3.own bb.size, bb.trans (hw3.below_made.mono bb.size)⟩
    · have hby := Lib.hid (xby_plain (la := la) (g := g) (l := l) hk hs.out)
      have c1 : (k == 2) = false := by simpa using hk
      have hmk := fun W => run_mk (P := Try.prog) 37 5 i0 (.int .u8 0) 1 Try.underlying37 hi hz0 hz1 hz2 rfl .i64 .i64 (s : Int) (s : Int) s s rfl rfl (by omega) (by omega) (by omega) W
      go_enter Try.func41, Try.ntmps41
      obtain ⟨q0, q1, q2, q3, q4, _⟩ := V.five
      go_wp2_with fail
      refine (fCheck_any la n k g A m c _).mono ?_
      rintro e w1 ⟨rfl, b1⟩
      rw [hr]
      replace V := V.under b1
      replace bb := bb.trans (b1.mono bb.size)
      clear q0 q1 q2 q3 q4
      have HO := Own.made w1 (.int .u8 0) 5 s s (by omega) (by omega)
      obtain ⟨q0, q1, q2, q3, q4, _⟩ := V.five
      go_wp2
      go_ret
      refine ⟨_, _, _, rfl, ?_, bb.trans (HO.below_made.mono bb.size)⟩
      rw [hby.out]
      exact Nw.mono (w1 := w1) HO.own bb.size
end Go.Proofs.Ytagageidiebogaa
