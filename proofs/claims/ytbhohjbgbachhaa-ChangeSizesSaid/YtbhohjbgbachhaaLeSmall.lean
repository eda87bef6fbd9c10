/-
  Contracts of the small functions of package le and of the document's answer: sizes, letters, whether a number fits, what bytes are, a number's bytes put behind.
-/
import Derived.Test.YtbhohjbgbachhaaRows
import Derived.Test.YtbhohjbgbachhaaLeMath
namespace Go.Proofs.Ytbhohjbgbachhaa
open Go.RowKit Go.Wag
set_option linter.unusedVariables false
set_option maxRecDepth 20000

theorem i5 : (Try.prog.info? 5).map (fun i => (i.zero, i.size, i.bytes)) = some (some (.int .u8 0), 1, 1) := by kernel_rfl
theorem i23 : (Try.prog.info? 71).map (fun i => (i.zero, i.size, i.bytes)) = some (some (.int .u64 0), 1, 8) := by kernel_rfl

theorem sz5 : (Try.prog.info? 5).map (·.size) = some 1 := by kernel_rfl
theorem el22 : Try.prog.elem 35 = 5 := by kernel_rfl
theorem un22 : Try.prog.underlying 35 = some (.slice (Try.prog.elem 35)) := by kernel_rfl

set_option maxHeartbeats 400000 in
theorem letterSize_any (c : Int) (w : World) : Calls Try.prog 73 #[.int .i32 c] w fun e w' => e = .returned (.int .i64 (ltr c : Int)) ∧ w = w' := by
  go_enter Try.func73, Try.ntmps73
  go_wp2
  all_goals
    go_ret
    refine ⟨?_, rfl⟩
    simp_all [ltr]

set_option maxHeartbeats 400000 in
theorem refSize_any (c : Int) (w : World) : Calls Try.prog 78 #[.int .u8 c] w fun e w' => e = .returned (.int .i64 (ltr c : Int)) ∧ w = w' := by
  go_enter Try.func78, Try.ntmps78
  go_wp2
  all_goals
    go_ret
    refine ⟨?_, rfl⟩
    simp_all [ltr]

set_option maxHeartbeats 400000 in
theorem may_any (s : Int) (w : World) : Calls Try.prog 94 #[.int .i64 s] w fun e w' => e = .returned (.bool (isSz s)) ∧ w = w' := by
  go_enter Try.func94, Try.ntmps94
  go_wp2
  all_goals
    go_ret
    refine ⟨?_, rfl⟩
    simp_all [isSz]

set_option maxHeartbeats 400000 in
theorem fits_any (n s : Int) (w : World) (h0 : 0 ≤ n) (h1 : n < 18446744073709551616) (hs : isSz s = true) :
    Calls Try.prog 74 #[.int .u64 n, .int .i64 s] w fun e w' => e = .returned (.bool (fitsB n.toNat s.toNat)) ∧ w = w' := by
  rcases isSz_cases hs with rfl | rfl | rfl | rfl
  all_goals
    clear hs
    go_enter Try.func74, Try.ntmps74
    go_wp2
    go_ret
    refine ⟨?_, rfl⟩
    exact ret_bool (fits1 n _ _ h0 (by decide))

set_option maxHeartbeats 400000 in
theorem number_any (A : Option Addr) (n c : Nat) (l : List UInt8) (w : World) (h : Sl w A n c (l.map v8)) (hn : n ≤ 8) :
    Calls Try.prog 79 #[.slice A n c] w fun e w' => e = .returned (.int .u64 (lev l : Int)) ∧ w = w' := by
  go_enter Try.func79, Try.ntmps79
  go_wp2
  go_loop [3, 8] (fun x i => ∃ k : Nat, k ≤ n ∧ i = .int .i64 k ∧ x = .int .u64 (lev (l.take k) : Int)) (fun _ i => n - (intOf i).toNat)
  case atStart => exact ⟨0, Nat.zero_le _, rfl, rfl⟩
  case round =>
    obtain ⟨k, hk, rfl, rfl⟩ := hrel
    by_cases hlt : k < n
    · obtain ⟨ad, rfl, hb, hl, hc⟩ := h.byte hlt
      have HS : Hid (l.take (k + 1) = l.take k ++ [l[k]]) := List.take_succ_eq_append_getElem hl
      have HL : Hid ((l.take k).length = k) := by show (l.take k).length = k; rw [List.length_take]; omega
      go_wp2
      go_round
      case rel =>
        refine ⟨k + 1, by omega, by go_num, val_int ?_⟩
        have hlt' := lev_lt (l.take k)
        rw [HL.out] at hlt'
        rw [or_step _ _ k (by omega) hlt' (UInt8.toNat_lt _), HS.out, lev_snoc, HL.out]
      case measure => simp [intOf]; omega
    · have HT : Hid (l.take k = l) := List.take_of_length_le (by have := h.len8; omega)
      go_wp2
      go_ret
      exact ⟨ret_int (by rw [HT.out]), rfl⟩

/-- What is behind 'appendNumber': the row, s bytes longer. -/
def AppPost (base : Nat) (w : World) (v : Value) (n : Nat) (xs : List Value) (s N : Nat) (e : Ending) (w' : World) : Prop :=
  ∃ A' c', e = .returned (.slice A' (n + s) c') ∧ Own base 5 w w' v (.slice A' (n + s) c') (n + s) (xs ++ (leb s N).map v8)

set_option maxHeartbeats 400000 in
theorem appendNumber_any (base : Nat) (A : Option Addr) (n c : Nat) (xs : List Value) (N s : Int) (w : World) (hown : w.ownsRow base 5 1 (.slice A n c) n xs) (hb : base ≤ w.heap.size)
    (h0 : 0 ≤ N) (h1 : N < 18446744073709551616) (hs0 : 0 ≤ s) (hs : s ≤ 8) (hn : n ≤ 100000000000000) :
    Calls Try.prog 75 #[.slice A n c, .int .u64 N, .int .i64 s] w (AppPost base w (.slice A n c) n xs s.toNat N.toNat) := by
  obtain ⟨m, rfl⟩ := Int.eq_ofNat_of_zero_le h0
  obtain ⟨z, rfl⟩ := Int.eq_ofNat_of_zero_le hs0
  rw [Int.toNat_natCast, Int.toNat_natCast]
  obtain ⟨i0, hi, hz0, hz1, hz2⟩ := info_parts i5
  go_enter Try.func75, Try.ntmps75
  go_wp2
  go_loopw [0, 1, 8] (fun v x i wr => ∃ k : Nat, k ≤ z ∧ i = .int .i64 k ∧ x = .int .u64 ((m / 256 ^ k : Nat) : Int) ∧ ∃ A' c', v = .slice A' (n + k) c' ∧ Own base 5 w wr (.slice A n c) (.slice A' (n + k) c') (n + k) (xs ++ (leb k m).map v8))
    (fun _ _ i _ => z - (intOf i).toNat)
  case atStart => exact ⟨0, Nat.zero_le _, rfl, by simp, A, c, rfl, by simpa [leb] using Own.start hown hb⟩
  case round =>
    obtain ⟨k, hk, rfl, rfl, A', c', rfl, hw⟩ := hrel
    by_cases hlt : k < z
    · go_wp2_with (at_builtin; refine wpList_app rfl (.tmp 10) (.tmp 13) 35 rfl rfl (hw.alloc _) i0 (.int .u8 0) 1 Try.underlying35 hi hz0 hz1 hz2 rfl _ 1 1 _ rfl (Sl.one _ _ _) ?_ ?_ ?_ ?_)
      · intro u hu; simp at hu; subst hu; rfl
      · omega
      · omega
      intro A2 c2 w2 hw2
      rw [leb_round] at hw2
      go_wp2
      go_roundw
      case rel => exact ⟨k + 1, by omega, by go_num, val_int (div_round k m), A2, c2, rfl, hw2⟩
      case measure => simp [intOf]; omega
    · go_wp2
      go_ret
      have : k = z := by omega
      subst this
      exact ⟨A', c', rfl, hw⟩
end Go.Proofs.Ytbhohjbgbachhaa
