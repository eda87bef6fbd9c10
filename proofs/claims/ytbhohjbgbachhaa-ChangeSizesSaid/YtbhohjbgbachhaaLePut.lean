/-
  Contracts of Put and Take, of package le and of the document's answer.
-/
import Derived.Test.YtbhohjbgbachhaaLeSmall
import Derived.Deep.QuietTactic
import Derived.BigQuiet
namespace Go.Proofs.Ytbhohjbgbachhaa
open Go.RowKit Go.Wag
set_option linter.unusedVariables false
set_option maxRecDepth 20000

/-- Bytes or none, and an error's number beside them; nothing old has turned. -/
def BytesErr (w : World) (r : Option (List UInt8)) (no : Int) (e : Ending) (w' : World) : Prop :=
  ∃ A n c, e = .returned (.tuple #[.slice A n c, .int .i64 (errOf r no)]) ∧ Sl w' A n c ((r.getD []).map v8) ∧ Nw 5 w w' A n c ((r.getD []).map v8) ∧ Below w.heap.size w w'

theorem putF_no {l : List UInt8} {n : Nat} {s : Int} (h : isSz s = false ∨ fitsB n s.toNat = false) : putF l n s = none := by
  unfold putF
  rcases h with h | h <;> simp [h]
theorem putF_yes {l : List UInt8} {n : Nat} {s : Int} (h : isSz s = true) (h' : fitsB n s.toNat = true) : putF l n s = some (l ++ leb s.toNat n) := by simp [putF, h, h']
theorem sz_range {s : Int} (h : isSz s = true) : 1 ≤ s ∧ s ≤ 8 := by rcases isSz_cases h with rfl | rfl | rfl | rfl <;> omega

/-- A number, bytes, and an error's number; nothing old has turned. -/
def NumErr (w : World) (r : Option (Nat × List UInt8)) (no : Int) (e : Ending) (w' : World) : Prop :=
  ∃ A n c, e = .returned (.tuple #[.int .u64 (((r.map (·.1)).getD 0 : Nat) : Int), .slice A n c, .int .i64 (errOf r no)]) ∧ Sl w' A n c (((r.map (·.2)).getD []).map v8) ∧ Nw 5 w w' A n c (((r.map (·.2)).getD []).map v8) ∧ Below w.heap.size w w'

theorem takeF_no {l : List UInt8} {s : Int} (h : isSz s = false ∨ ¬ s.toNat ≤ l.length) : takeF l s = none := by
  unfold takeF
  rcases h with h | h <;> simp [h]
theorem takeF_yes {l : List UInt8} {s : Int} (h : isSz s = true) (h' : s.toNat ≤ l.length) : takeF l s = some (lev (l.take s.toNat), l.drop s.toNat) := by simp [takeF, h, h']

set_option maxHeartbeats 400000 in
theorem refPut_n1 (A : Option Addr) (n c : Nat) (l : List UInt8) (N : Int) (w : World) (h0 : 0 ≤ N) (hf : fitsB N.toNat 1 = false) :
    Calls Try.prog 77 #[.slice A n c, .int .u64 N, .int .i64 1] w (BytesErr w none 10) := by
  have hq : (N / 256 != 0) = true := by rw [bne, fitsI N 256 1 h0 (by decide), hf]; rfl
  go_enter Try.func77, Try.ntmps77
  go_wp2_with fail
  refine (may_any _ _).mono ?_
  rintro e w' ⟨rfl, rfl⟩
  have hsz : isSz 1 = true := rfl
  go_wp2
  go_ret2
  exact ⟨none, 0, 0, rfl, Sl.nil _, Nw.nil _ _ _, Below.refl _ _⟩

set_option maxHeartbeats 400000 in
theorem refPut_y1 (A : Option Addr) (n c : Nat) (l : List UInt8) (N : Int) (w : World) (h : Sl w A n c (l.map v8)) (hn : n ≤ 10000000000000) (h0 : 0 ≤ N) (hf : fitsB N.toNat 1 = true) :
    Calls Try.prog 77 #[.slice A n c, .int .u64 N, .int .i64 1] w (BytesErr w (some (l ++ leb 1 N.toNat)) 10) := by
  obtain ⟨i0, hi, hz0, hz1, hz2⟩ := info_parts i5
  have hq : (N / 256 != 0) = false := by rw [bne, fitsI N 256 1 h0 (by decide), hf]; rfl
  have hsz : isSz 1 = true := rfl
  have HC := h.alloc (.cells #[] 5)
  have HO := Own.empty w 5
  go_enter Try.func77, Try.ntmps77
  go_wp2_with fail
  refine (may_any _ _).mono ?_
  rintro e w' ⟨rfl, rfl⟩
  go_wp2_with (at_builtin; refine wpList_app rfl (.tmp 27) (.tmp 28) 35 rfl rfl HO i0 (.int .u8 0) 1 Try.underlying35 hi hz0 hz1 hz2 rfl _ _ _ _ rfl HC (oneCell8 l) ?_ ?_ ?_)
  · omega
  · omega
  intro A2 c2 w2 hw2
  clear HC HO
  go_wp2
  go_loopw [9, 10] (fun v i wr => ∃ k : Nat, k ≤ 1 ∧ i = .int .i64 k ∧ ∃ A' c', v = .slice A' (n + k) c' ∧ Own w.heap.size 5 (w.alloc (.cells #[] 5)) wr (.slice (some ⟨w.heap.size, 0, none⟩) 0 0) (.slice A' (n + k) c') (n + k) (l.map v8 ++ (leb k N.toNat).map v8))
    (fun _ i _ => 1 - (intOf i).toNat)
  case atStart => exact ⟨0, Nat.zero_le _, rfl, A2, c2, rfl, by simpa [leb] using hw2⟩
  case round =>
    obtain ⟨k, hk, rfl, A3, c3, rfl, hw3⟩ := hrel
    by_cases hlt : k < 1
    · go_wp2_with (at_builtin; refine wpList_app rfl (.tmp 35) (.tmp 42) 35 rfl rfl (hw3.alloc _) i0 (.int .u8 0) 1 Try.underlying35 hi hz0 hz1 hz2 rfl _ 1 1 _ rfl (Sl.one _ _ _) ?_ ?_ ?_ ?_)
      · intro u hu; simp at hu; subst hu; rfl
      · omega
      · omega
      intro A4 c4 w4 hw4
      rw [leb_round2 _ _ _ h0] at hw4
      go_wp2
      go_roundw
      case rel => exact ⟨k + 1, by omega, by go_num, A4, c4, rfl, hw4⟩
      case measure => simp [intOf]; omega
    · go_wp2
      go_ret2
      have : k = 1 := by omega
      subst this
      rw [← List.map_append] at hw3
      exact ⟨A3, _, c3, rfl, hw3.to_sl, hw3.fresh, hw3.below_made⟩

set_option maxHeartbeats 400000 in
theorem refPut_n2 (A : Option Addr) (n c : Nat) (l : List UInt8) (N : Int) (w : World) (h0 : 0 ≤ N) (hf : fitsB N.toNat 2 = false) :
    Calls Try.prog 77 #[.slice A n c, .int .u64 N, .int .i64 2] w (BytesErr w none 10) := by
  have hq : (N / 65536 != 0) = true := by rw [bne, fitsI N 65536 2 h0 (by decide), hf]; rfl
  go_enter Try.func77, Try.ntmps77
  go_wp2_with fail
  refine (may_any _ _).mono ?_
  rintro e w' ⟨rfl, rfl⟩
  have hsz : isSz 2 = true := rfl
  go_wp2
  go_ret2
  exact ⟨none, 0, 0, rfl, Sl.nil _, Nw.nil _ _ _, Below.refl _ _⟩

set_option maxHeartbeats 400000 in
theorem refPut_y2 (A : Option Addr) (n c : Nat) (l : List UInt8) (N : Int) (w : World) (h : Sl w A n c (l.map v8)) (hn : n ≤ 10000000000000) (h0 : 0 ≤ N) (hf : fitsB N.toNat 2 = true) :
    Calls Try.prog 77 #[.slice A n c, .int .u64 N, .int .i64 2] w (BytesErr w (some (l ++ leb 2 N.toNat)) 10) := by
  obtain ⟨i0, hi, hz0, hz1, hz2⟩ := info_parts i5
  have hq : (N / 65536 != 0) = false := by rw [bne, fitsI N 65536 2 h0 (by decide), hf]; rfl
  have hsz : isSz 2 = true := rfl
  have HC := h.alloc (.cells #[] 5)
  have HO := Own.empty w 5
  go_enter Try.func77, Try.ntmps77
  go_wp2_with fail
  refine (may_any _ _).mono ?_
  rintro e w' ⟨rfl, rfl⟩
  go_wp2_with (at_builtin; refine wpList_app rfl (.tmp 27) (.tmp 28) 35 rfl rfl HO i0 (.int .u8 0) 1 Try.underlying35 hi hz0 hz1 hz2 rfl _ _ _ _ rfl HC (oneCell8 l) ?_ ?_ ?_)
  · omega
  · omega
  intro A2 c2 w2 hw2
  clear HC HO
  go_wp2
  go_loopw [9, 10] (fun v i wr => ∃ k : Nat, k ≤ 2 ∧ i = .int .i64 k ∧ ∃ A' c', v = .slice A' (n + k) c' ∧ Own w.heap.size 5 (w.alloc (.cells #[] 5)) wr (.slice (some ⟨w.heap.size, 0, none⟩) 0 0) (.slice A' (n + k) c') (n + k) (l.map v8 ++ (leb k N.toNat).map v8))
    (fun _ i _ => 2 - (intOf i).toNat)
  case atStart => exact ⟨0, Nat.zero_le _, rfl, A2, c2, rfl, by simpa [leb] using hw2⟩
  case round =>
    obtain ⟨k, hk, rfl, A3, c3, rfl, hw3⟩ := hrel
    by_cases hlt : k < 2
    · go_wp2_with (at_builtin; refine wpList_app rfl (.tmp 35) (.tmp 42) 35 rfl rfl (hw3.alloc _) i0 (.int .u8 0) 1 Try.underlying35 hi hz0 hz1 hz2 rfl _ 1 1 _ rfl (Sl.one _ _ _) ?_ ?_ ?_ ?_)
      · intro u hu; simp at hu; subst hu; rfl
      · omega
      · omega
      intro A4 c4 w4 hw4
      rw [leb_round2 _ _ _ h0] at hw4
      go_wp2
      go_roundw
      case rel => exact ⟨k + 1, by omega, by go_num, A4, c4, rfl, hw4⟩
      case measure => simp [intOf]; omega
    · go_wp2
      go_ret2
      have : k = 2 := by omega
      subst this
      rw [← List.map_append] at hw3
      exact ⟨A3, _, c3, rfl, hw3.to_sl, hw3.fresh, hw3.below_made⟩

set_option maxHeartbeats 400000 in
theorem refPut_n4 (A : Option Addr) (n c : Nat) (l : List UInt8) (N : Int) (w : World) (h0 : 0 ≤ N) (hf : fitsB N.toNat 4 = false) :
    Calls Try.prog 77 #[.slice A n c, .int .u64 N, .int .i64 4] w (BytesErr w none 10) := by
  have hq : (N / 4294967296 != 0) = true := by rw [bne, fitsI N 4294967296 4 h0 (by decide), hf]; rfl
  go_enter Try.func77, Try.ntmps77
  go_wp2_with fail
  refine (may_any _ _).mono ?_
  rintro e w' ⟨rfl, rfl⟩
  have hsz : isSz 4 = true := rfl
  go_wp2
  go_ret2
  exact ⟨none, 0, 0, rfl, Sl.nil _, Nw.nil _ _ _, Below.refl _ _⟩

set_option maxHeartbeats 400000 in
theorem refPut_y4 (A : Option Addr) (n c : Nat) (l : List UInt8) (N : Int) (w : World) (h : Sl w A n c (l.map v8)) (hn : n ≤ 10000000000000) (h0 : 0 ≤ N) (hf : fitsB N.toNat 4 = true) :
    Calls Try.prog 77 #[.slice A n c, .int .u64 N, .int .i64 4] w (BytesErr w (some (l ++ leb 4 N.toNat)) 10) := by
  obtain ⟨i0, hi, hz0, hz1, hz2⟩ := info_parts i5
  have hq : (N / 4294967296 != 0) = false := by rw [bne, fitsI N 4294967296 4 h0 (by decide), hf]; rfl
  have hsz : isSz 4 = true := rfl
  have HC := h.alloc (.cells #[] 5)
  have HO := Own.empty w 5
  go_enter Try.func77, Try.ntmps77
  go_wp2_with fail
  refine (may_any _ _).mono ?_
  rintro e w' ⟨rfl, rfl⟩
  go_wp2_with (at_builtin; refine wpList_app rfl (.tmp 27) (.tmp 28) 35 rfl rfl HO i0 (.int .u8 0) 1 Try.underlying35 hi hz0 hz1 hz2 rfl _ _ _ _ rfl HC (oneCell8 l) ?_ ?_ ?_)
  · omega
  · omega
  intro A2 c2 w2 hw2
  clear HC HO
  go_wp2
  go_loopw [9, 10] (fun v i wr => ∃ k : Nat, k ≤ 4 ∧ i = .int .i64 k ∧ ∃ A' c', v = .slice A' (n + k) c' ∧ Own w.heap.size 5 (w.alloc (.cells #[] 5)) wr (.slice (some ⟨w.heap.size, 0, none⟩) 0 0) (.slice A' (n + k) c') (n + k) (l.map v8 ++ (leb k N.toNat).map v8))
    (fun _ i _ => 4 - (intOf i).toNat)
  case atStart => exact ⟨0, Nat.zero_le _, rfl, A2, c2, rfl, by simpa [leb] using hw2⟩
  case round =>
    obtain ⟨k, hk, rfl, A3, c3, rfl, hw3⟩ := hrel
    by_cases hlt : k < 4
    · go_wp2_with (at_builtin; refine wpList_app rfl (.tmp 35) (.tmp 42) 35 rfl rfl (hw3.alloc _) i0 (.int .u8 0) 1 Try.underlying35 hi hz0 hz1 hz2 rfl _ 1 1 _ rfl (Sl.one _ _ _) ?_ ?_ ?_ ?_)
      · intro u hu; simp at hu; subst hu; rfl
      · omega
      · omega
      intro A4 c4 w4 hw4
      rw [leb_round2 _ _ _ h0] at hw4
      go_wp2
      go_roundw
      case rel => exact ⟨k + 1, by omega, by go_num, A4, c4, rfl, hw4⟩
      case measure => simp [intOf]; omega
    · go_wp2
      go_ret2
      have : k = 4 := by omega
      subst this
      rw [← List.map_append] at hw3
      exact ⟨A3, _, c3, rfl, hw3.to_sl, hw3.fresh, hw3.below_made⟩

set_option maxHeartbeats 400000 in
theorem refPut_y8 (A : Option Addr) (n c : Nat) (l : List UInt8) (N : Int) (w : World) (h : Sl w A n c (l.map v8)) (hn : n ≤ 10000000000000) (h0 : 0 ≤ N) :
    Calls Try.prog 77 #[.slice A n c, .int .u64 N, .int .i64 8] w (BytesErr w (some (l ++ leb 8 N.toNat)) 10) := by
  obtain ⟨i0, hi, hz0, hz1, hz2⟩ := info_parts i5
  have hsz : isSz 8 = true := rfl
  have HC := h.alloc (.cells #[] 5)
  have HO := Own.empty w 5
  go_enter Try.func77, Try.ntmps77
  go_wp2_with fail
  refine (may_any _ _).mono ?_
  rintro e w' ⟨rfl, rfl⟩
  go_wp2_with (at_builtin; refine wpList_app rfl (.tmp 27) (.tmp 28) 35 rfl rfl HO i0 (.int .u8 0) 1 Try.underlying35 hi hz0 hz1 hz2 rfl _ _ _ _ rfl HC (oneCell8 l) ?_ ?_ ?_)
  · omega
  · omega
  intro A2 c2 w2 hw2
  clear HC HO
  go_wp2
  go_loopw [9, 10] (fun v i wr => ∃ k : Nat, k ≤ 8 ∧ i = .int .i64 k ∧ ∃ A' c', v = .slice A' (n + k) c' ∧ Own w.heap.size 5 (w.alloc (.cells #[] 5)) wr (.slice (some ⟨w.heap.size, 0, none⟩) 0 0) (.slice A' (n + k) c') (n + k) (l.map v8 ++ (leb k N.toNat).map v8))
    (fun _ i _ => 8 - (intOf i).toNat)
  case atStart => exact ⟨0, Nat.zero_le _, rfl, A2, c2, rfl, by simpa [leb] using hw2⟩
  case round =>
    obtain ⟨k, hk, rfl, A3, c3, rfl, hw3⟩ := hrel
    by_cases hlt : k < 8
    · go_wp2_with (at_builtin; refine wpList_app rfl (.tmp 35) (.tmp 42) 35 rfl rfl (hw3.alloc _) i0 (.int .u8 0) 1 Try.underlying35 hi hz0 hz1 hz2 rfl _ 1 1 _ rfl (Sl.one _ _ _) ?_ ?_ ?_ ?_)
      · intro u hu; simp at hu; subst hu; rfl
      · omega
      · omega
      intro A4 c4 w4 hw4
      rw [leb_round2 _ _ _ h0] at hw4
      go_wp2
      go_roundw
      case rel => exact ⟨k + 1, by omega, by go_num, A4, c4, rfl, hw4⟩
      case measure => simp [intOf]; omega
    · go_wp2
      go_ret2
      have : k = 8 := by omega
      subst this
      rw [← List.map_append] at hw3
      exact ⟨A3, _, c3, rfl, hw3.to_sl, hw3.fresh, hw3.below_made⟩

theorem refPut_any (A : Option Addr) (n c : Nat) (l : List UInt8) (N s : Int) (w : World) (h : Sl w A n c (l.map v8)) (hn : n ≤ 10000000000000) (h0 : 0 ≤ N) (h1 : N < 18446744073709551616) :
    Calls Try.prog 77 #[.slice A n c, .int .u64 N, .int .i64 s] w (BytesErr w (putF l N.toNat s) 10) := by
  by_cases hs : isSz s = true
  · by_cases hf : fitsB N.toNat s.toNat = true
    · rw [putF_yes hs hf]
      rcases isSz_cases hs with rfl | rfl | rfl | rfl
      · exact refPut_y1 A n c l N w h hn h0 hf
      · exact refPut_y2 A n c l N w h hn h0 hf
      · exact refPut_y4 A n c l N w h hn h0 hf
      · exact refPut_y8 A n c l N w h hn h0
    · have hf' : fitsB N.toNat s.toNat = false := by simpa using hf
      rw [putF_no (.inr hf')]
      rcases isSz_cases hs with rfl | rfl | rfl | rfl
      · exact refPut_n1 A n c l N w h0 hf'
      · exact refPut_n2 A n c l N w h0 hf'
      · exact refPut_n4 A n c l N w h0 hf'
      · refine absurd ?_ hf
        have : (256 : Nat) ^ (Int.toNat 8) = 18446744073709551616 := by decide
        simp only [fitsB, this, decide_eq_true_eq]
        omega
  · have hs' : isSz s = false := by simpa using hs
    rw [putF_no (.inl hs')]
    go_enter Try.func77, Try.ntmps77
    go_wp2_with fail
    refine (may_any _ _).mono ?_
    rintro e w' ⟨rfl, rfl⟩
    go_wp2
    go_ret2
    exact ⟨none, 0, 0, rfl, Sl.nil _, Nw.nil _ _ _, Below.refl _ _⟩

set_option maxHeartbeats 400000 in
theorem refTake_any (A : Option Addr) (n c : Nat) (l : List UInt8) (s : Int) (w : World) (h : Sl w A n c (l.map v8)) (hn : n ≤ 10000000000000) :
    Calls Try.prog 81 #[.slice A n c, .int .i64 s] w (NumErr w (takeF l s) 10) := by
  have HN : Hid (l.length = n) := h.len8
  have hcap := h.cap
  have hbig := h.big
  obtain ⟨i0, hi, hz0, hz1, hz2⟩ := info_parts i5
  by_cases hs : isSz s = true
  · obtain ⟨hs1, hs8⟩ := sz_range hs
    obtain ⟨z, rfl⟩ := Int.eq_ofNat_of_zero_le (show 0 ≤ s by omega)
    by_cases hf : z ≤ n
    · rw [takeF_yes hs (by rw [Int.toNat_natCast, HN.out]; exact hf), Int.toNat_natCast]
      have hcut := fun W => run_cut (P := Try.prog) 35 5 un22 el22 sz5 A n c .i64 (z : Int) z rfl hf W
      have hd : decide (n < z) = false := by simpa using hf
      go_enter Try.func81, Try.ntmps81
      go_wp2_with fail
      refine (may_any _ _).mono ?_
      rintro e w' ⟨rfl, rfl⟩
      go_wp2
      go_loop [8, 9] (fun x i => ∃ k : Nat, k ≤ z ∧ i = .int .i64 ((k : Int) - 1) ∧ x = .int .u64 (lev ((l.take z).drop k) : Int)) (fun _ i => (intOf i + 1).toNat)
      case atStart => exact ⟨z, Nat.le_refl _, rfl, by rw [List.drop_eq_nil_of_le (by rw [List.length_take]; omega)]; rfl⟩
      case round =>
        obtain ⟨k, hk, rfl, rfl⟩ := hrel
        by_cases hk0 : k = 0
        · subst hk0
          have HC := (h.alloc (.cells #[] 5)).from_ hf
          have HO := Own.empty w 5
          go_wp2_with (at_builtin; refine wpList_app rfl (.tmp 35) (.tmp 38) 35 rfl rfl HO i0 (.int .u8 0) 1 Try.underlying35 hi hz0 hz1 hz2 rfl _ _ _ _ rfl HC ?_ ?_ ?_ ?_)
          · rw [← List.map_drop]; exact oneCell8 _
          · omega
          · omega
          intro A2 c2 w2 hw2
          go_wp2
          refine bodyPost_ret (results_tmp3 rfl _ _ _) rfl ?_
          rw [← List.map_drop] at hw2
          exact ⟨_, _, _, rfl, hw2.to_sl, hw2.fresh, hw2.below_made⟩
        · obtain ⟨j, rfl⟩ : ∃ j, k = j + 1 := ⟨k - 1, by omega⟩
          obtain ⟨ad, rfl, hb, hl, hc⟩ := h.byte (show j < n by omega)
          go_wp2
          go_round
          case rel => exact ⟨j, by omega, rfl, val_int (take_round l z j hk (by omega) hl)⟩
          case measure => simp [intOf]
    · rw [takeF_no (.inr (by rw [Int.toNat_natCast, HN.out]; exact hf))]
      go_enter Try.func81, Try.ntmps81
      go_wp2_with fail
      refine (may_any _ _).mono ?_
      rintro e w' ⟨rfl, rfl⟩
      go_wp2
      refine bodyPost_ret (results_tmp3 rfl _ _ _) rfl ?_
      exact ⟨none, 0, 0, rfl, Sl.nil _, Nw.nil _ _ _, Below.refl _ _⟩
  · have hs' : isSz s = false := by simpa using hs
    rw [takeF_no (.inl hs')]
    go_enter Try.func81, Try.ntmps81
    go_wp2_with fail
    refine (may_any _ _).mono ?_
    rintro e w' ⟨rfl, rfl⟩
    go_wp2
    refine bodyPost_ret (results_tmp3 rfl _ _ _) rfl ?_
    exact ⟨none, 0, 0, rfl, Sl.nil _, Nw.nil _ _ _, Below.refl _ _⟩
end Go.Proofs.Ytbhohjbgbachhaa
