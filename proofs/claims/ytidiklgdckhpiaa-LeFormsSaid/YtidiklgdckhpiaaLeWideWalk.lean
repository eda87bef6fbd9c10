/-
  The walk of LeWide.
-/
import Derived.Test.YtidiklgdckhpiaaLeApartWalk
namespace Go.Proofs.Ytidiklgdckhpiaa
open Go.RowKit Go.Wag
set_option linter.unusedVariables false

theorem lev_zero : ∀ l : List UInt8, lev l = 0 ↔ l.all (· == 0) = true
  | [] => by simp [lev]
  | c :: r => by
    have ih := lev_zero r
    have hc : c.toNat = 0 ↔ c = 0 := by
      constructor
      · intro h; exact UInt8.toNat_inj.1 h
      · rintro rfl; rfl
    simp only [lev, List.all_cons, Bool.and_eq_true, beq_iff_eq, ← ih, ← hc]
    omega
theorem leb_take : ∀ (k j n : Nat), j ≤ k → (leb k n).take j = leb j n
  | _, 0, _, _ => by simp [leb]
  | 0, j + 1, _, h => by omega
  | k + 1, j + 1, n, h => by simp only [leb, List.take_succ_cons, leb_take k j (n / 256) (by omega)]
theorem leb_drop : ∀ (k j n : Nat), j ≤ k → (leb k n).drop j = leb (k - j) (n / 256 ^ j)
  | k, 0, n, _ => by simp
  | 0, j + 1, _, h => by omega
  | k + 1, j + 1, n, h => by
    simp only [leb, List.drop_succ_cons, leb_drop k j (n / 256) (by omega), Nat.add_sub_add_right]
    rw [Nat.div_div_eq_div_mul, Nat.pow_succ, Nat.mul_comm 256]
/-- The bytes from z on are noughts just if the number fits. -/
theorem zeros_fit {m z : Nat} (hz : z ≤ 8) (h : (m : Int) < 18446744073709551616) : ((leb 8 m).drop z).all (· == 0) = fitsB m z := by
  rw [Bool.eq_iff_iff, ← lev_zero, leb_drop 8 z m hz]
  have h8 : (256 : Nat) ^ 8 = 18446744073709551616 := by decide
  have hp : 256 ^ z * 256 ^ (8 - z) = 18446744073709551616 := by rw [← Nat.pow_add, show z + (8 - z) = 8 by omega, h8]
  rw [lev_leb (8 - z) (m / 256 ^ z) (Nat.div_lt_of_lt_mul (by rw [hp]; omega)), Nat.div_eq_zero_iff]
  have : 0 < 256 ^ z := Nat.pow_pos (by omega)
  simp only [fitsB, decide_eq_true_eq]
  omega

/-- What the loop of LeWide has seen so far. -/
def wideF (l : List UInt8) (z k : Nat) : Bool := ((l.take k).drop z).all (· == 0)
theorem wideF_step {l : List UInt8} {z k : Nat} (hz : z ≤ k) (hk : k < l.length) : wideF l z (k + 1) = (wideF l z k && l[k] == 0) := by
  unfold wideF
  rw [List.take_succ_eq_append_getElem hk, List.drop_append_of_le_length (by rw [List.length_take]; omega), List.all_append]
  simp

theorem wide_end {lx : List UInt8} {m z : Nat} (hl : lx = leb 8 m) (hz : z ≤ 8) (h : (m : Int) < 18446744073709551616) : wideF lx z 8 = fitsB m z := by
  subst hl
  unfold wideF
  rw [List.take_of_length_le (by rw [leb_length]; exact Nat.le_refl _)]
  exact zeros_fit hz h
theorem byte_zero (c : UInt8) : ((c.toNat : Int) == 0) = (c == 0) := by
  rw [Bool.eq_iff_iff, beq_iff_eq, beq_iff_eq]
  constructor
  · intro h
    apply UInt8.toNat_inj.1
    show c.toNat = 0
    omega
  · rintro rfl
    rfl
theorem val_bool {a b : Bool} (h : a = b) : Value.bool a = .bool b := by rw [h]

set_option maxRecDepth 100000 in
set_option maxHeartbeats 1000000 in
theorem LeWide_y1 (a0 : Int) (w : World) (h0 : 0 ≤ a0) (h1 : a0 < 18446744073709551616) (hf : fitsB a0.toNat 1 = true) :
    Calls Try.prog 8 #[.int .u64 a0, .int .i64 1] w (AwakePost w) := by
  have H1 := Lib.hid h1
  have H0 := Lib.hid h0
  clear h0 h1
  have HF := Lib.hid hf
  clear hf
  go_enter Try.func8, Try.ntmps8
  go_wp2_with fail
  refine (awake_any _).mono ?_
  rintro e w1 ⟨rfl, b1⟩
  go_wp2_with fail
  refine (BytesErr.ok (Put_any none 0 0 [] _ _ _ (Sl.nil _) (by decide) H0.out H1.out) (putF8i H0.out H1.out)).mono ?_
  rintro e w2 ⟨A2, n2, c2, rfl, s2, f2, b2⟩
  rw [List.nil_append] at s2
  obtain rfl : 8 = n2 := by have := s2.len8; rwa [leb_length] at this
  have h8c := s2.cap
  have h8b := s2.big
  replace b1 := b1.trans (b2.mono b1.size)
  clear b2 f2
  go_wp2_with fail
  refine (BytesErr.ok (Put_any none 0 0 [] _ 1 _ (Sl.nil _) (by decide) H0.out H1.out) (putF_yes (l := []) (s := 1) rfl HF.out)).mono ?_
  rintro e w3 ⟨A3, n3, c3, rfl, s3, f3, b3⟩
  replace b1 := b1.trans (b3.mono b1.size)
  replace s2 := s2.below b3
  clear b3 f3
  have su : Sl w3 A2 1 c2 ((([] : List UInt8) ++ leb (Int.toNat 1) a0.toNat).map v8) := by
    have := s2.upto (m := 1) (by omega)
    rw [← List.map_take, leb_take 8 1 _ (by omega)] at this
    exact this
  obtain ⟨lx, hlx⟩ : ∃ lx, lx = leb 8 a0.toNat := ⟨_, rfl⟩
  rw [← hlx] at s2
  have HLX := Lib.hid hlx
  clear hlx
  go_wp2
  go_loop [10, 11] (fun f i => ∃ k : Nat, 1 ≤ k ∧ k ≤ 8 ∧ i = .int .i64 k ∧ f = .bool (wideF lx 1 k)) (fun _ i => 8 - (intOf i).toNat)
  case atStart => exact ⟨1, by omega, by omega, rfl, val_bool (by unfold wideF; rw [List.drop_eq_nil_of_le (by rw [List.length_take]; omega)]; rfl)⟩
  case round =>
    obtain ⟨k, hk1, hk2, rfl, rfl⟩ := hrel
    by_cases hk : k < 8
    · obtain ⟨ad, rfl, hba, hl1, hc1⟩ := s2.byte hk
      have HS := Lib.hid (wideF_step (l := lx) (z := 1) hk1 hl1)
      have hki : (k : Int) < 8 := by omega
      cases hw : wideF lx 1 k with
      | true =>
        have HW := Lib.hid hw
        clear hw
        go_wp2
        go_round
        case rel => exact ⟨k + 1, by omega, by omega, by go_num, val_bool (by rw [HS.out, HW.out, byte_zero, Bool.true_and])⟩
        case measure => simp [intOf]; omega
      | false =>
        have HW := Lib.hid hw
        clear hw
        go_wp2
        go_round
        case rel => exact ⟨k + 1, by omega, by omega, by go_num, val_bool (by rw [HS.out, HW.out, Bool.false_and])⟩
        case measure => simp [intOf]; omega
    · obtain rfl : k = 8 := by omega
      have hw8 : wideF lx 1 8 = true := by rw [wide_end HLX.out (by omega) (by have := H0.out; have := H1.out; omega)]; exact HF.out
      have q3 := fun nq => str_of (s3.drewN nq)
      have q2 := fun nq => str_of (su.drewN nq)
      go_wp2_with fail
      go_quiet (fail)
      go_wp2
      go_ret
      exact ⟨rfl, drewN_below b1 _⟩

set_option maxRecDepth 100000 in
set_option maxHeartbeats 1000000 in
theorem LeWide_n1 (a0 : Int) (w : World) (h0 : 0 ≤ a0) (h1 : a0 < 18446744073709551616) (hf : fitsB a0.toNat 1 = false) :
    Calls Try.prog 8 #[.int .u64 a0, .int .i64 1] w (AwakePost w) := by
  have H1 := Lib.hid h1
  have H0 := Lib.hid h0
  clear h0 h1
  have HF := Lib.hid hf
  clear hf
  go_enter Try.func8, Try.ntmps8
  go_wp2_with fail
  refine (awake_any _).mono ?_
  rintro e w1 ⟨rfl, b1⟩
  go_wp2_with fail
  refine (BytesErr.ok (Put_any none 0 0 [] _ _ _ (Sl.nil _) (by decide) H0.out H1.out) (putF8i H0.out H1.out)).mono ?_
  rintro e w2 ⟨A2, n2, c2, rfl, s2, f2, b2⟩
  rw [List.nil_append] at s2
  obtain rfl : 8 = n2 := by have := s2.len8; rwa [leb_length] at this
  have h8c := s2.cap
  have h8b := s2.big
  replace b1 := b1.trans (b2.mono b1.size)
  clear b2 f2
  go_wp2_with fail
  refine (BytesErr.no (Put_any none 0 0 [] _ 1 _ (Sl.nil _) (by decide) H0.out H1.out) (putF_no (l := []) (s := 1) (.inr HF.out))).mono ?_
  rintro e w3 ⟨A3, n3, c3, rfl, s3, f3, b3⟩
  replace b1 := b1.trans (b3.mono b1.size)
  replace s2 := s2.below b3
  clear b3 f3
  obtain ⟨lx, hlx⟩ : ∃ lx, lx = leb 8 a0.toNat := ⟨_, rfl⟩
  rw [← hlx] at s2
  have HLX := Lib.hid hlx
  clear hlx
  go_wp2
  go_loop [10, 11] (fun f i => ∃ k : Nat, 1 ≤ k ∧ k ≤ 8 ∧ i = .int .i64 k ∧ f = .bool (wideF lx 1 k)) (fun _ i => 8 - (intOf i).toNat)
  case atStart => exact ⟨1, by omega, by omega, rfl, val_bool (by unfold wideF; rw [List.drop_eq_nil_of_le (by rw [List.length_take]; omega)]; rfl)⟩
  case round =>
    obtain ⟨k, hk1, hk2, rfl, rfl⟩ := hrel
    by_cases hk : k < 8
    · obtain ⟨ad, rfl, hba, hl1, hc1⟩ := s2.byte hk
      have HS := Lib.hid (wideF_step (l := lx) (z := 1) hk1 hl1)
      have hki : (k : Int) < 8 := by omega
      cases hw : wideF lx 1 k with
      | true =>
        have HW := Lib.hid hw
        clear hw
        go_wp2
        go_round
        case rel => exact ⟨k + 1, by omega, by omega, by go_num, val_bool (by rw [HS.out, HW.out, byte_zero, Bool.true_and])⟩
        case measure => simp [intOf]; omega
      | false =>
        have HW := Lib.hid hw
        clear hw
        go_wp2
        go_round
        case rel => exact ⟨k + 1, by omega, by omega, by go_num, val_bool (by rw [HS.out, HW.out, Bool.false_and])⟩
        case measure => simp [intOf]; omega
    · obtain rfl : k = 8 := by omega
      have hw8 : wideF lx 1 8 = false := by rw [wide_end HLX.out (by omega) (by have := H0.out; have := H1.out; omega)]; exact HF.out
      go_wp2_with fail
      go_quiet (fail)
      go_wp2
      go_ret
      exact ⟨rfl, drewN_below b1 _⟩

set_option maxRecDepth 100000 in
set_option maxHeartbeats 1000000 in
theorem LeWide_y2 (a0 : Int) (w : World) (h0 : 0 ≤ a0) (h1 : a0 < 18446744073709551616) (hf : fitsB a0.toNat 2 = true) :
    Calls Try.prog 8 #[.int .u64 a0, .int .i64 2] w (AwakePost w) := by
  have H1 := Lib.hid h1
  have H0 := Lib.hid h0
  clear h0 h1
  have HF := Lib.hid hf
  clear hf
  go_enter Try.func8, Try.ntmps8
  go_wp2_with fail
  refine (awake_any _).mono ?_
  rintro e w1 ⟨rfl, b1⟩
  go_wp2_with fail
  refine (BytesErr.ok (Put_any none 0 0 [] _ _ _ (Sl.nil _) (by decide) H0.out H1.out) (putF8i H0.out H1.out)).mono ?_
  rintro e w2 ⟨A2, n2, c2, rfl, s2, f2, b2⟩
  rw [List.nil_append] at s2
  obtain rfl : 8 = n2 := by have := s2.len8; rwa [leb_length] at this
  have h8c := s2.cap
  have h8b := s2.big
  replace b1 := b1.trans (b2.mono b1.size)
  clear b2 f2
  go_wp2_with fail
  refine (BytesErr.ok (Put_any none 0 0 [] _ 2 _ (Sl.nil _) (by decide) H0.out H1.out) (putF_yes (l := []) (s := 2) rfl HF.out)).mono ?_
  rintro e w3 ⟨A3, n3, c3, rfl, s3, f3, b3⟩
  replace b1 := b1.trans (b3.mono b1.size)
  replace s2 := s2.below b3
  clear b3 f3
  have su : Sl w3 A2 2 c2 ((([] : List UInt8) ++ leb (Int.toNat 2) a0.toNat).map v8) := by
    have := s2.upto (m := 2) (by omega)
    rw [← List.map_take, leb_take 8 2 _ (by omega)] at this
    exact this
  obtain ⟨lx, hlx⟩ : ∃ lx, lx = leb 8 a0.toNat := ⟨_, rfl⟩
  rw [← hlx] at s2
  have HLX := Lib.hid hlx
  clear hlx
  go_wp2
  go_loop [10, 11] (fun f i => ∃ k : Nat, 2 ≤ k ∧ k ≤ 8 ∧ i = .int .i64 k ∧ f = .bool (wideF lx 2 k)) (fun _ i => 8 - (intOf i).toNat)
  case atStart => exact ⟨2, by omega, by omega, rfl, val_bool (by unfold wideF; rw [List.drop_eq_nil_of_le (by rw [List.length_take]; omega)]; rfl)⟩
  case round =>
    obtain ⟨k, hk1, hk2, rfl, rfl⟩ := hrel
    by_cases hk : k < 8
    · obtain ⟨ad, rfl, hba, hl1, hc1⟩ := s2.byte hk
      have HS := Lib.hid (wideF_step (l := lx) (z := 2) hk1 hl1)
      have hki : (k : Int) < 8 := by omega
      cases hw : wideF lx 2 k with
      | true =>
        have HW := Lib.hid hw
        clear hw
        go_wp2
        go_round
        case rel => exact ⟨k + 1, by omega, by omega, by go_num, val_bool (by rw [HS.out, HW.out, byte_zero, Bool.true_and])⟩
        case measure => simp [intOf]; omega
      | false =>
        have HW := Lib.hid hw
        clear hw
        go_wp2
        go_round
        case rel => exact ⟨k + 1, by omega, by omega, by go_num, val_bool (by rw [HS.out, HW.out, Bool.false_and])⟩
        case measure => simp [intOf]; omega
    · obtain rfl : k = 8 := by omega
      have hw8 : wideF lx 2 8 = true := by rw [wide_end HLX.out (by omega) (by have := H0.out; have := H1.out; omega)]; exact HF.out
      have q3 := fun nq => str_of (s3.drewN nq)
      have q2 := fun nq => str_of (su.drewN nq)
      go_wp2_with fail
      go_quiet (fail)
      go_wp2
      go_ret
      exact ⟨rfl, drewN_below b1 _⟩

set_option maxRecDepth 100000 in
set_option maxHeartbeats 1000000 in
theorem LeWide_n2 (a0 : Int) (w : World) (h0 : 0 ≤ a0) (h1 : a0 < 18446744073709551616) (hf : fitsB a0.toNat 2 = false) :
    Calls Try.prog 8 #[.int .u64 a0, .int .i64 2] w (AwakePost w) := by
  have H1 := Lib.hid h1
  have H0 := Lib.hid h0
  clear h0 h1
  have HF := Lib.hid hf
  clear hf
  go_enter Try.func8, Try.ntmps8
  go_wp2_with fail
  refine (awake_any _).mono ?_
  rintro e w1 ⟨rfl, b1⟩
  go_wp2_with fail
  refine (BytesErr.ok (Put_any none 0 0 [] _ _ _ (Sl.nil _) (by decide) H0.out H1.out) (putF8i H0.out H1.out)).mono ?_
  rintro e w2 ⟨A2, n2, c2, rfl, s2, f2, b2⟩
  rw [List.nil_append] at s2
  obtain rfl : 8 = n2 := by have := s2.len8; rwa [leb_length] at this
  have h8c := s2.cap
  have h8b := s2.big
  replace b1 := b1.trans (b2.mono b1.size)
  clear b2 f2
  go_wp2_with fail
  refine (BytesErr.no (Put_any none 0 0 [] _ 2 _ (Sl.nil _) (by decide) H0.out H1.out) (putF_no (l := []) (s := 2) (.inr HF.out))).mono ?_
  rintro e w3 ⟨A3, n3, c3, rfl, s3, f3, b3⟩
  replace b1 := b1.trans (b3.mono b1.size)
  replace s2 := s2.below b3
  clear b3 f3
  obtain ⟨lx, hlx⟩ : ∃ lx, lx = leb 8 a0.toNat := ⟨_, rfl⟩
  rw [← hlx] at s2
  have HLX := Lib.hid hlx
  clear hlx
  go_wp2
  go_loop [10, 11] (fun f i => ∃ k : Nat, 2 ≤ k ∧ k ≤ 8 ∧ i = .int .i64 k ∧ f = .bool (wideF lx 2 k)) (fun _ i => 8 - (intOf i).toNat)
  case atStart => exact ⟨2, by omega, by omega, rfl, val_bool (by unfold wideF; rw [List.drop_eq_nil_of_le (by rw [List.length_take]; omega)]; rfl)⟩
  case round =>
    obtain ⟨k, hk1, hk2, rfl, rfl⟩ := hrel
    by_cases hk : k < 8
    · obtain ⟨ad, rfl, hba, hl1, hc1⟩ := s2.byte hk
      have HS := Lib.hid (wideF_step (l := lx) (z := 2) hk1 hl1)
      have hki : (k : Int) < 8 := by omega
      cases hw : wideF lx 2 k with
      | true =>
        have HW := Lib.hid hw
        clear hw
        go_wp2
        go_round
        case rel => exact ⟨k + 1, by omega, by omega, by go_num, val_bool (by rw [HS.out, HW.out, byte_zero, Bool.true_and])⟩
        case measure => simp [intOf]; omega
      | false =>
        have HW := Lib.hid hw
        clear hw
        go_wp2
        go_round
        case rel => exact ⟨k + 1, by omega, by omega, by go_num, val_bool (by rw [HS.out, HW.out, Bool.false_and])⟩
        case measure => simp [intOf]; omega
    · obtain rfl : k = 8 := by omega
      have hw8 : wideF lx 2 8 = false := by rw [wide_end HLX.out (by omega) (by have := H0.out; have := H1.out; omega)]; exact HF.out
      go_wp2_with fail
      go_quiet (fail)
      go_wp2
      go_ret
      exact ⟨rfl, drewN_below b1 _⟩

set_option maxRecDepth 100000 in
set_option maxHeartbeats 1000000 in
theorem LeWide_y4 (a0 : Int) (w : World) (h0 : 0 ≤ a0) (h1 : a0 < 18446744073709551616) (hf : fitsB a0.toNat 4 = true) :
    Calls Try.prog 8 #[.int .u64 a0, .int .i64 4] w (AwakePost w) := by
  have H1 := Lib.hid h1
  have H0 := Lib.hid h0
  clear h0 h1
  have HF := Lib.hid hf
  clear hf
  go_enter Try.func8, Try.ntmps8
  go_wp2_with fail
  refine (awake_any _).mono ?_
  rintro e w1 ⟨rfl, b1⟩
  go_wp2_with fail
  refine (BytesErr.ok (Put_any none 0 0 [] _ _ _ (Sl.nil _) (by decide) H0.out H1.out) (putF8i H0.out H1.out)).mono ?_
  rintro e w2 ⟨A2, n2, c2, rfl, s2, f2, b2⟩
  rw [List.nil_append] at s2
  obtain rfl : 8 = n2 := by have := s2.len8; rwa [leb_length] at this
  have h8c := s2.cap
  have h8b := s2.big
  replace b1 := b1.trans (b2.mono b1.size)
  clear b2 f2
  go_wp2_with fail
  refine (BytesErr.ok (Put_any none 0 0 [] _ 4 _ (Sl.nil _) (by decide) H0.out H1.out) (putF_yes (l := []) (s := 4) rfl HF.out)).mono ?_
  rintro e w3 ⟨A3, n3, c3, rfl, s3, f3, b3⟩
  replace b1 := b1.trans (b3.mono b1.size)
  replace s2 := s2.below b3
  clear b3 f3
  have su : Sl w3 A2 4 c2 ((([] : List UInt8) ++ leb (Int.toNat 4) a0.toNat).map v8) := by
    have := s2.upto (m := 4) (by omega)
    rw [← List.map_take, leb_take 8 4 _ (by omega)] at this
    exact this
  obtain ⟨lx, hlx⟩ : ∃ lx, lx = leb 8 a0.toNat := ⟨_, rfl⟩
  rw [← hlx] at s2
  have HLX := Lib.hid hlx
  clear hlx
  go_wp2
  go_loop [10, 11] (fun f i => ∃ k : Nat, 4 ≤ k ∧ k ≤ 8 ∧ i = .int .i64 k ∧ f = .bool (wideF lx 4 k)) (fun _ i => 8 - (intOf i).toNat)
  case atStart => exact ⟨4, by omega, by omega, rfl, val_bool (by unfold wideF; rw [List.drop_eq_nil_of_le (by rw [List.length_take]; omega)]; rfl)⟩
  case round =>
    obtain ⟨k, hk1, hk2, rfl, rfl⟩ := hrel
    by_cases hk : k < 8
    · obtain ⟨ad, rfl, hba, hl1, hc1⟩ := s2.byte hk
      have HS := Lib.hid (wideF_step (l := lx) (z := 4) hk1 hl1)
      have hki : (k : Int) < 8 := by omega
      cases hw : wideF lx 4 k with
      | true =>
        have HW := Lib.hid hw
        clear hw
        go_wp2
        go_round
        case rel => exact ⟨k + 1, by omega, by omega, by go_num, val_bool (by rw [HS.out, HW.out, byte_zero, Bool.true_and])⟩
        case measure => simp [intOf]; omega
      | false =>
        have HW := Lib.hid hw
        clear hw
        go_wp2
        go_round
        case rel => exact ⟨k + 1, by omega, by omega, by go_num, val_bool (by rw [HS.out, HW.out, Bool.false_and])⟩
        case measure => simp [intOf]; omega
    · obtain rfl : k = 8 := by omega
      have hw8 : wideF lx 4 8 = true := by rw [wide_end HLX.out (by omega) (by have := H0.out; have := H1.out; omega)]; exact HF.out
      have q3 := fun nq => str_of (s3.drewN nq)
      have q2 := fun nq => str_of (su.drewN nq)
      go_wp2_with fail
      go_quiet (fail)
      go_wp2
      go_ret
      exact ⟨rfl, drewN_below b1 _⟩

set_option maxRecDepth 100000 in
set_option maxHeartbeats 1000000 in
theorem LeWide_n4 (a0 : Int) (w : World) (h0 : 0 ≤ a0) (h1 : a0 < 18446744073709551616) (hf : fitsB a0.toNat 4 = false) :
    Calls Try.prog 8 #[.int .u64 a0, .int .i64 4] w (AwakePost w) := by
  have H1 := Lib.hid h1
  have H0 := Lib.hid h0
  clear h0 h1
  have HF := Lib.hid hf
  clear hf
  go_enter Try.func8, Try.ntmps8
  go_wp2_with fail
  refine (awake_any _).mono ?_
  rintro e w1 ⟨rfl, b1⟩
  go_wp2_with fail
  refine (BytesErr.ok (Put_any none 0 0 [] _ _ _ (Sl.nil _) (by decide) H0.out H1.out) (putF8i H0.out H1.out)).mono ?_
  rintro e w2 ⟨A2, n2, c2, rfl, s2, f2, b2⟩
  rw [List.nil_append] at s2
  obtain rfl : 8 = n2 := by have := s2.len8; rwa [leb_length] at this
  have h8c := s2.cap
  have h8b := s2.big
  replace b1 := b1.trans (b2.mono b1.size)
  clear b2 f2
  go_wp2_with fail
  refine (BytesErr.no (Put_any none 0 0 [] _ 4 _ (Sl.nil _) (by decide) H0.out H1.out) (putF_no (l := []) (s := 4) (.inr HF.out))).mono ?_
  rintro e w3 ⟨A3, n3, c3, rfl, s3, f3, b3⟩
  replace b1 := b1.trans (b3.mono b1.size)
  replace s2 := s2.below b3
  clear b3 f3
  obtain ⟨lx, hlx⟩ : ∃ lx, lx = leb 8 a0.toNat := ⟨_, rfl⟩
  rw [← hlx] at s2
  have HLX := Lib.hid hlx
  clear hlx
  go_wp2
  go_loop [10, 11] (fun f i => ∃ k : Nat, 4 ≤ k ∧ k ≤ 8 ∧ i = .int .i64 k ∧ f = .bool (wideF lx 4 k)) (fun _ i => 8 - (intOf i).toNat)
  case atStart => exact ⟨4, by omega, by omega, rfl, val_bool (by unfold wideF; rw [List.drop_eq_nil_of_le (by rw [List.length_take]; omega)]; rfl)⟩
  case round =>
    obtain ⟨k, hk1, hk2, rfl, rfl⟩ := hrel
    by_cases hk : k < 8
    · obtain ⟨ad, rfl, hba, hl1, hc1⟩ := s2.byte hk
      have HS := Lib.hid (wideF_step (l := lx) (z := 4) hk1 hl1)
      have hki : (k : Int) < 8 := by omega
      cases hw : wideF lx 4 k with
      | true =>
        have HW := Lib.hid hw
        clear hw
        go_wp2
        go_round
        case rel => exact ⟨k + 1, by omega, by omega, by go_num, val_bool (by rw [HS.out, HW.out, byte_zero, Bool.true_and])⟩
        case measure => simp [intOf]; omega
      | false =>
        have HW := Lib.hid hw
        clear hw
        go_wp2
        go_round
        case rel => exact ⟨k + 1, by omega, by omega, by go_num, val_bool (by rw [HS.out, HW.out, Bool.false_and])⟩
        case measure => simp [intOf]; omega
    · obtain rfl : k = 8 := by omega
      have hw8 : wideF lx 4 8 = false := by rw [wide_end HLX.out (by omega) (by have := H0.out; have := H1.out; omega)]; exact HF.out
      go_wp2_with fail
      go_quiet (fail)
      go_wp2
      go_ret
      exact ⟨rfl, drewN_below b1 _⟩

set_option maxRecDepth 100000 in
set_option maxHeartbeats 1000000 in
theorem LeWide_y8 (a0 : Int) (w : World) (h0 : 0 ≤ a0) (h1 : a0 < 18446744073709551616) :
    Calls Try.prog 8 #[.int .u64 a0, .int .i64 8] w (AwakePost w) := by
  have H1 := Lib.hid h1
  have H0 := Lib.hid h0
  clear h0 h1
  have hf : fitsB a0.toNat 8 = true := fits8 (by have := H0.out; have := H1.out; omega)
  have HF := Lib.hid hf
  clear hf
  go_enter Try.func8, Try.ntmps8
  go_wp2_with fail
  refine (awake_any _).mono ?_
  rintro e w1 ⟨rfl, b1⟩
  go_wp2_with fail
  refine (BytesErr.ok (Put_any none 0 0 [] _ _ _ (Sl.nil _) (by decide) H0.out H1.out) (putF8i H0.out H1.out)).mono ?_
  rintro e w2 ⟨A2, n2, c2, rfl, s2, f2, b2⟩
  rw [List.nil_append] at s2
  obtain rfl : 8 = n2 := by have := s2.len8; rwa [leb_length] at this
  have h8c := s2.cap
  have h8b := s2.big
  replace b1 := b1.trans (b2.mono b1.size)
  clear b2 f2
  go_wp2_with fail
  refine (BytesErr.ok (Put_any none 0 0 [] _ 8 _ (Sl.nil _) (by decide) H0.out H1.out) (putF_yes (l := []) (s := 8) rfl HF.out)).mono ?_
  rintro e w3 ⟨A3, n3, c3, rfl, s3, f3, b3⟩
  replace b1 := b1.trans (b3.mono b1.size)
  replace s2 := s2.below b3
  clear b3 f3
  have su : Sl w3 A2 8 c2 ((([] : List UInt8) ++ leb (Int.toNat 8) a0.toNat).map v8) := by
    have := s2.upto (m := 8) (by omega)
    rw [← List.map_take, leb_take 8 8 _ (by omega)] at this
    exact this
  obtain ⟨lx, hlx⟩ : ∃ lx, lx = leb 8 a0.toNat := ⟨_, rfl⟩
  rw [← hlx] at s2
  have HLX := Lib.hid hlx
  clear hlx
  go_wp2
  go_loop [10, 11] (fun f i => ∃ k : Nat, 8 ≤ k ∧ k ≤ 8 ∧ i = .int .i64 k ∧ f = .bool (wideF lx 8 k)) (fun _ i => 8 - (intOf i).toNat)
  case atStart => exact ⟨8, by omega, by omega, rfl, val_bool (by unfold wideF; rw [List.drop_eq_nil_of_le (by rw [List.length_take]; omega)]; rfl)⟩
  case round =>
    obtain ⟨k, hk1, hk2, rfl, rfl⟩ := hrel
    by_cases hk : k < 8
    · obtain ⟨ad, rfl, hba, hl1, hc1⟩ := s2.byte hk
      have HS := Lib.hid (wideF_step (l := lx) (z := 8) hk1 hl1)
      have hki : (k : Int) < 8 := by omega
      cases hw : wideF lx 8 k with
      | true =>
        have HW := Lib.hid hw
        clear hw
        go_wp2
        go_round
        case rel => exact ⟨k + 1, by omega, by omega, by go_num, val_bool (by rw [HS.out, HW.out, byte_zero, Bool.true_and])⟩
        case measure => simp [intOf]; omega
      | false =>
        have HW := Lib.hid hw
        clear hw
        go_wp2
        go_round
        case rel => exact ⟨k + 1, by omega, by omega, by go_num, val_bool (by rw [HS.out, HW.out, Bool.false_and])⟩
        case measure => simp [intOf]; omega
    · obtain rfl : k = 8 := by omega
      have hw8 : wideF lx 8 8 = true := by rw [wide_end HLX.out (by omega) (by have := H0.out; have := H1.out; omega)]; exact HF.out
      have q3 := fun nq => str_of (s3.drewN nq)
      have q2 := fun nq => str_of (su.drewN nq)
      go_wp2_with fail
      go_quiet (fail)
      go_wp2
      go_ret
      exact ⟨rfl, drewN_below b1 _⟩

set_option maxRecDepth 100000 in
set_option maxHeartbeats 1000000 in
theorem LeWide_no (a0 a1 : Int) (w : World) (h0 : 0 ≤ a0) (h1 : a0 < 18446744073709551616) (hz : isSz a1 = false) :
    Calls Try.prog 8 #[.int .u64 a0, .int .i64 a1] w (AwakePost w) := by
  have H1 := Lib.hid h1
  have H0 := Lib.hid h0
  have HZ := Lib.hid hz
  have hn := isSz_no hz
  have g1 : (a1 != 1) = true := by simpa using hn.1
  have g2 : (a1 != 2) = true := by simpa using hn.2.1
  have g4 : (a1 != 4) = true := by simpa using hn.2.2.1
  have g8 : (a1 != 8) = true := by simpa using hn.2.2.2
  clear h0 h1 hz hn
  go_enter Try.func8, Try.ntmps8
  go_wp2_with fail
  refine (awake_any _).mono ?_
  rintro e w1 ⟨rfl, b1⟩
  go_wp2_with fail
  refine (BytesErr.ok (Put_any none 0 0 [] _ _ _ (Sl.nil _) (by decide) H0.out H1.out) (putF8i H0.out H1.out)).mono ?_
  rintro e w2 ⟨A2, n2, c2, rfl, s2, f2, b2⟩
  rw [List.nil_append] at s2
  obtain rfl : 8 = n2 := by have := s2.len8; rwa [leb_length] at this
  replace b1 := b1.trans (b2.mono b1.size)
  clear b2 f2 s2
  go_wp2_with fail
  refine (BytesErr.no (Put_any none 0 0 [] _ _ _ (Sl.nil _) (by decide) H0.out H1.out) (putF_no (l := []) (.inl HZ.out))).mono ?_
  rintro e w3 ⟨A3, n3, c3, rfl, s3, f3, b3⟩
  obtain rfl : 0 = n3 := by simpa using s3.len8
  go_wp2
  go_ret
  exact ⟨rfl, b1.trans (b3.mono b1.size)⟩

theorem LeWide_walk (a0 : Int) (a1 : Int) (w : World) (w0 : (Lit.int .u64 a0).wf = true) (w1 : (Lit.int .i64 a1).wf = true) :
    Calls Try.prog 8 #[.int .u64 a0, .int .i64 a1] w (AwakePost w) := by
  obtain ⟨h0, h1⟩ := wf_u64 w0
  cases hz : isSz a1 with
  | false => exact LeWide_no a0 a1 w h0 h1 hz
  | true =>
    rcases isSz_cases hz with rfl | rfl | rfl | rfl
    · cases hf : fitsB a0.toNat 1 with
      | true => exact LeWide_y1 a0 w h0 h1 hf
      | false => exact LeWide_n1 a0 w h0 h1 hf
    · cases hf : fitsB a0.toNat 2 with
      | true => exact LeWide_y2 a0 w h0 h1 hf
      | false => exact LeWide_n2 a0 w h0 h1 hf
    · cases hf : fitsB a0.toNat 4 with
      | true => exact LeWide_y4 a0 w h0 h1 hf
      | false => exact LeWide_n4 a0 w h0 h1 hf
    · exact LeWide_y8 a0 w h0 h1
end Go.Proofs.Ytidiklgdckhpiaa
