/-
  Contracts of the document's Check, Copy and Bytes of extents.
-/
import Derived.Test.YtefodkkkbjgbiaaExt1
namespace Go.Proofs.Ytefodkkkbjgbiaa
open Go.RowKit Go.Wag
set_option linter.unusedVariables false
set_option maxRecDepth 20000

set_option maxHeartbeats 1000000 in
theorem fCheck_any (la n k g : Int) (A : Option Addr) (m c : Nat) (w : World) :
    Calls Try.prog 36 #[.agg #[.int .i64 la, .int .i64 n, .int .i64 k, .int .i64 g, .slice A m c]] w fun e w' => e = .returned (.bool (xchk la n k g m)) ∧ Below w.heap.size w w' := by
  by_cases h1 : 0 ≤ la ∧ la ≤ 64 ∧ 1 ≤ n ∧ n ≤ 64 - la
  · obtain ⟨a1, a0, a2, a3⟩ := h1
    have b1 : ¬ la < 0 := by omega
    have b0 : ¬ la > 64 := by omega
    have b2 : ¬ n < 1 := by omega
    have b3 : wrap64 (64 - la) = 64 - la := by unfold wrap64; omega
    have b4 : ¬ n > 64 - la := by omega
    by_cases h2 : 0 ≤ k ∧ k ≤ 2 ∧ 0 ≤ g ∧ g < 2147483648
    · obtain ⟨a4, a5, a6, a7⟩ := h2
      have b5 : ¬ k < 0 := by omega
      have b6 : ¬ k > 2 := by omega
      have b7 : ¬ g < 0 := by omega
      have b8 : ¬ g ≥ 2147483648 := by omega
      have b9 : wrap64 (32 * n) = 32 * n := by unfold wrap64; omega
      have hr : xchk la n k g m = if k = 2 then decide ((m : Int) = 32 * n) else decide ((m : Int) = 0) := by
        rw [Bool.eq_iff_iff]
        unfold xchk
        rw [decide_eq_true_iff]
        by_cases hk : k = 2
        · rw [if_pos hk, decide_eq_true_iff]
          omega
        · rw [if_neg hk, decide_eq_true_iff]
          omega
      rw [hr]
      clear hr
      by_cases hk : k = 2
      · rw [if_pos hk]
        have c1 : (k == 2) = true := by simpa using hk
        go_enter Try.func36, Try.ntmps36
        go_wp2_with fail
        go_ret
        exact ⟨congrArg (fun b => Ending.returned (.bool b)) (by rw [Bool.eq_iff_iff]; simp), (Below.refl _ _).alloc (Nat.le_refl _) _⟩
      · rw [if_neg hk]
        have c1 : (k == 2) = false := by simpa using hk
        go_enter Try.func36, Try.ntmps36
        go_wp2_with fail
        go_ret
        exact ⟨congrArg (fun b => Ending.returned (.bool b)) (by rw [Bool.eq_iff_iff]; simp), (Below.refl _ _).alloc (Nat.le_refl _) _⟩
    · have hr : xchk la n k g m = false := by unfold xchk; exact decide_eq_false (by omega)
      rw [hr]
      clear hr
      by_cases c1 : k < 0
      · go_enter Try.func36, Try.ntmps36
        go_wp2_with fail
        go_ret
        exact ⟨rfl, (Below.refl _ _).alloc (Nat.le_refl _) _⟩
      by_cases c2 : k > 2
      · go_enter Try.func36, Try.ntmps36
        go_wp2_with fail
        go_ret
        exact ⟨rfl, (Below.refl _ _).alloc (Nat.le_refl _) _⟩
      by_cases c3 : g < 0
      · go_enter Try.func36, Try.ntmps36
        go_wp2_with fail
        go_ret
        exact ⟨rfl, (Below.refl _ _).alloc (Nat.le_refl _) _⟩
      have c4 : g ≥ 2147483648 := by omega
      go_enter Try.func36, Try.ntmps36
      go_wp2_with fail
      go_ret
      exact ⟨rfl, (Below.refl _ _).alloc (Nat.le_refl _) _⟩
  · have hr : xchk la n k g m = false := by unfold xchk; exact decide_eq_false (by omega)
    rw [hr]
    clear hr
    by_cases c1 : la < 0
    · go_enter Try.func36, Try.ntmps36
      go_wp2_with fail
      go_ret
      exact ⟨rfl, (Below.refl _ _).alloc (Nat.le_refl _) _⟩
    by_cases c0 : la > 64
    · go_enter Try.func36, Try.ntmps36
      go_wp2_with fail
      go_ret
      exact ⟨rfl, (Below.refl _ _).alloc (Nat.le_refl _) _⟩
    by_cases c2 : n < 1
    · go_enter Try.func36, Try.ntmps36
      go_wp2_with fail
      go_ret
      exact ⟨rfl, (Below.refl _ _).alloc (Nat.le_refl _) _⟩
    have b3 : wrap64 (64 - la) = 64 - la := by unfold wrap64; omega
    have c3 : n > 64 - la := by omega
    go_enter Try.func36, Try.ntmps36
    go_wp2_with fail
    go_ret
    exact ⟨rfl, (Below.refl _ _).alloc (Nat.le_refl _) _⟩

theorem xby_plain {la n k g : Int} {l : List UInt8} (hk : k ≠ 2) {s : Nat} (hs : 32 * n = (s : Int)) : (xby ⟨la, n, k, g, l⟩).map v8 = List.replicate s (Value.int .u8 0) := by
  unfold xby
  rw [if_neg hk, List.map_replicate]
  have e : (32 * n).toNat = s := by omega
  simp only [e]
  rfl
theorem xby_data {la n g : Int} {l : List UInt8} : xby ⟨la, n, 2, g, l⟩ = l := by
  unfold xby
  rw [if_pos rfl]

end Go.Proofs.Ytefodkkkbjgbiaa
