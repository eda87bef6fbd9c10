/-
  Contracts of change.cut and change.listOf (written by gen_ch4.py).
-/
import Derived.Test.YtbhohjbgbachhaaCh3
import Derived.Test.YtbhohjbgbachhaaExB
namespace Go.Proofs.Ytbhohjbgbachhaa
open Go.RowKit Go.Wag
set_option linter.unusedVariables false
set_option linter.unusedSimpArgs false
set_option maxRecDepth 20000
theorem chCut_any (A : Option Addr) (n c m : Nat) (w : World) (hcap : n ≤ c) (hbig : c ≤ 9223372036854775807) :
    Calls Try.prog 54 #[.slice A n c, .int .i64 (m : Int)] w fun e w' => e = .returned (if m ≤ n then .tuple #[.slice A m m, .slice (cutA A c m) (n - m) (c - m), .bool true] else .tuple #[.slice none 0 0, .slice none 0 0, .bool false]) ∧ Below w.heap.size w w' := by
  by_cases h : (n : Int) < (m : Int)
  · rw [if_neg (by omega)]
    go_enter Try.func54, Try.ntmps54
    go_wp2_with fail
    go_ret3
    exact ⟨rfl, Below.refl _ _⟩
  · rw [if_pos (by omega)]
    have hcut := fun W => run_cut (P := Try.prog) 35 5 un22 el22 sz5 A n c .i64 (m : Int) m rfl (by omega) W
    have hup : ∀ W : World, (Instr.slice 35 (.slice A n c) none (some (.int .i64 (m : Int))) (some (.int .i64 (m : Int)))).run Try.prog W = .ok (.slice A m m) W := fun W => by
      rw [run_slice_hm W 35 A n c un22 .i64 .i64 m m (by omega) (by omega) (by omega)]
      obtain ⟨i, hi, hs⟩ := Option.map_eq_some_iff.1 sz5
      simp [sizeOf, typeInfo, el22, hi, hs, sliced]
      intro _
      cases A with
      | none => rfl
      | some ad =>
        have e : ad.add 0 = ad := by unfold Addr.add; split <;> simp_all
        simp [e]
    go_enter Try.func54, Try.ntmps54
    go_wp2_with fail
    go_quiet (fail)
    go_wp2_with fail
    go_ret3
    exact ⟨rfl, drewN_below (Below.refl _ _) _⟩
/-- The extents behind a change's data, if bytes are. -/
def lsF (k : Int) (b : List UInt8) : Option (List Xp) := if k = 8 then xrd b else if b.length = 0 then some [] else none
def LsPost (w : World) (r : Option (List Xp)) (e : Ending) (w' : World) : Prop :=
  ∃ A k c, Hid (k = (r.getD []).length) ∧ e = .returned (.tuple #[.slice A k c, .bool r.isSome]) ∧ Rs extE (fun x => w.heap.size ≤ x) w' A k c (r.getD []) ∧ Below w.heap.size w w'
set_option maxHeartbeats 1000000 in
theorem chListOf_any (k : Int) (A : Option Addr) (n c : Nat) (b : List UInt8) (w : World) (h : Sl w A n c (b.map v8)) (hn : n ≤ 10000000000000) :
    Calls Try.prog 55 #[.int .i64 k, .slice A n c] w (LsPost w (lsF k b)) := by
  have HN : Hid (b.length = n) := h.len8
  by_cases hk : k = 8
  · subst hk
    have e : lsF 8 b = xrd b := by rw [lsF, if_pos rfl]
    rw [e]
    have hC := eRead_any A n c b w h hn
    cases hr : xrd b with
    | none =>
      rw [hr] at hC
      replace hr := Lib.hid hr
      go_enter Try.func55, Try.ntmps55
      go_wp2_with fail
      refine hC.mono ?_
      clear hC
      rintro e w1 ⟨A1, k1, c1, hk1, rfl, R, b1⟩
      try simp only [errOf, Option.isSome_none, Option.isSome_some, if_true, Bool.false_eq_true, if_false]
      go_wp2_with fail
      go_ret2
      exact ⟨A1, k1, c1, hk1, rfl, R, b1⟩
    | some l =>
      rw [hr] at hC
      replace hr := Lib.hid hr
      go_enter Try.func55, Try.ntmps55
      go_wp2_with fail
      refine hC.mono ?_
      clear hC
      rintro e w1 ⟨A1, k1, c1, hk1, rfl, R, b1⟩
      try simp only [errOf, Option.isSome_none, Option.isSome_some, if_true, Bool.false_eq_true, if_false]
      go_wp2_with fail
      go_ret2
      exact ⟨A1, k1, c1, hk1, rfl, R, b1⟩
  · have hne : (k != 8) = true := by simpa using hk
    have e : lsF k b = if n = 0 then some [] else none := by rw [lsF, if_neg hk, HN.out]
    rw [e]
    by_cases h0 : n = 0
    · subst h0
      rw [if_pos rfl]
      go_enter Try.func55, Try.ntmps55
      go_wp2_with fail
      go_ret2
      exact ⟨none, 0, 0, rfl, rfl, Rs.nil _ _ _, Below.refl _ _⟩
    · have hne2 : ((n : Int) == 0) = false := by simp; omega
      rw [if_neg h0]
      go_enter Try.func55, Try.ntmps55
      go_wp2_with fail
      go_ret2
      exact ⟨none, 0, 0, rfl, rfl, Rs.nil _ _ _, Below.refl _ _⟩
end Go.Proofs.Ytbhohjbgbachhaa
