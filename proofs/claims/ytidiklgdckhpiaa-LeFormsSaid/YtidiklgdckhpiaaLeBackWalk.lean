/-
  The walk of LeBack.
-/
import Derived.Test.YtidiklgdckhpiaaLePacksWalk
namespace Go.Proofs.Ytidiklgdckhpiaa
open Go.RowKit Go.Wag
set_option linter.unusedVariables false

theorem unpack_pack : ∀ (l : List UInt8) (ns : List UInt64) (bs : List UInt8), packF l ns = some bs → unpackF l bs = some ns
  | [], [], bs, h => by
    obtain rfl : [] = bs := by simpa [packF] using h
    rfl
  | [], _ :: _, _, h => by simp [packF] at h
  | _ :: _, [], _, h => by simp [packF] at h
  | c :: r, n :: ns, bs, h => by
    simp only [packF] at h
    split at h
    · cases h
    · rename_i hd
      obtain ⟨u, hu, rfl⟩ := Option.map_eq_some_iff.1 h
      have hc : ¬ ltr c.toNat = 0 := fun e => hd (.inl e)
      have hf : fitsB n.toNat (ltr c.toNat) = true := by
        cases e : fitsB n.toNat (ltr c.toNat) with
        | true => rfl
        | false => exact absurd (.inr e) hd
      have hn : ¬ (ltr c.toNat = 0 ∨ (leb (ltr c.toNat) n.toNat ++ u).length < ltr c.toNat) := by
        rintro (e | e)
        · exact hc e
        · rw [List.length_append, leb_length] at e; omega
      have hlt : n.toNat < 256 ^ ltr c.toNat := by simpa [fitsB] using hf
      rw [unpackF, if_neg hn, List.drop_append_of_le_length (by rw [leb_length]; exact Nat.le_refl _), List.take_append_of_le_length (by rw [leb_length]; exact Nat.le_refl _), List.drop_eq_nil_of_le (by rw [leb_length]; exact Nat.le_refl _), List.take_of_length_le (by rw [leb_length]; exact Nat.le_refl _), List.nil_append, unpack_pack r ns u hu, lev_leb _ _ hlt]
      simp

theorem fits8 {m : Nat} (h : (m : Int) < 18446744073709551616) : fitsB m 8 = true := by
  have : (256 : Nat) ^ 8 = 18446744073709551616 := by decide
  simp only [fitsB, this, decide_eq_true_eq]
  omega
theorem putF8 {l : List UInt8} {m : Nat} (h : (m : Int) < 18446744073709551616) : putF l ((m : Int)).toNat 8 = some (l ++ leb 8 m) := by
  rw [putF_yes rfl (by rw [Int.toNat_natCast]; exact fits8 h), Int.toNat_natCast]
  rfl
theorem putF8i {l : List UInt8} {a : Int} (h0 : 0 ≤ a) (h : a < 18446744073709551616) : putF l a.toNat 8 = some (l ++ leb 8 a.toNat) := by
  obtain ⟨m, rfl⟩ := Int.eq_ofNat_of_zero_le h0
  exact putF8 h
theorem lev8 {m : Nat} (h : (m : Int) < 18446744073709551616) : lev (leb 8 m) = m := lev_leb 8 m (by simpa [fitsB] using fits8 h)
theorem takeF8 {l : List UInt8} {m : Nat} (h : (m : Int) < 18446744073709551616) : takeF (leb 8 m ++ l) 8 = some (m, l) := by
  rw [takeF_yes rfl (by rw [List.length_append, leb_length]; show 8 ≤ _; omega)]
  have e1 : (leb 8 m ++ l).take (Int.toNat 8) = leb 8 m := by
    show (leb 8 m ++ l).take 8 = _
    rw [List.take_append_of_le_length (by rw [leb_length]; exact Nat.le_refl _), List.take_of_length_le (by rw [leb_length]; exact Nat.le_refl _)]
  have e2 : (leb 8 m ++ l).drop (Int.toNat 8) = l := by
    show (leb 8 m ++ l).drop 8 = _
    rw [List.drop_append_of_le_length (by rw [leb_length]; exact Nat.le_refl _), List.drop_eq_nil_of_le (by rw [leb_length]; exact Nat.le_refl _), List.nil_append]
  rw [e1, e2, lev8 h]

set_option maxRecDepth 100000 in
set_option maxHeartbeats 2000000 in
theorem LeBack_walk (a0 : ByteArray) (a1 : Option Addr) (len1 cap1 : Nat) (z1 : List Int) (a2 : Option Addr) (len2 cap2 : Nat) (z2 : List Int) (a3 : Int) (a4 : Option Addr) (len4 cap4 : Nat) (z4 : List Int) (w : World) (w0 : a0.size ≤ maxLen) (w1 : IsRow .u64 w a1 len1 cap1 z1) (w2 : IsRow .u8 w a2 len2 cap2 z2) (w3 : (Lit.int .u64 a3).wf = true) (w4 : IsRow .u8 w a4 len4 cap4 z4) :
    Calls Try.prog 5 #[.string a0, .slice a1 len1 cap1, .slice a2 len2 cap2, .int .u64 a3, .slice a4 len4 cap4] w (AwakePost w) := by
  obtain ⟨ns, s1⟩ := w1.nums
  obtain ⟨l, s0⟩ := w2.bytes
  obtain ⟨l4, s4⟩ := w4.bytes
  obtain ⟨h0, h1⟩ := wf_u64 w3
  have H1 := Lib.hid h1
  have H0 := Lib.hid h0
  clear w0 w1 w2 w3 w4 h1 h0
  obtain ⟨i0, hi, hz0, hz1, hz2⟩ := info_parts i5
  by_cases g1 : (60 : Int) < (a0.size : Int)
  · go_enter Try.func5, Try.ntmps5
    go_wp2_with fail
    refine (awake_any _).mono ?_
    rintro e w1 ⟨rfl, b1⟩
    go_wp2
    go_ret
    exact ⟨rfl, b1⟩
  by_cases g2 : (60 : Int) < (len1 : Int)
  · go_enter Try.func5, Try.ntmps5
    go_wp2_with fail
    refine (awake_any _).mono ?_
    rintro e w1 ⟨rfl, b1⟩
    go_wp2
    go_ret
    exact ⟨rfl, b1⟩
  by_cases g3 : (300 : Int) < (len2 : Int)
  · go_enter Try.func5, Try.ntmps5
    go_wp2_with fail
    refine (awake_any _).mono ?_
    rintro e w1 ⟨rfl, b1⟩
    go_wp2
    go_ret
    exact ⟨rfl, b1⟩
  by_cases g4 : (300 : Int) < (len4 : Int)
  · go_enter Try.func5, Try.ntmps5
    go_wp2_with fail
    refine (awake_any _).mono ?_
    rintro e w1 ⟨rfl, b1⟩
    go_wp2
    go_ret
    exact ⟨rfl, b1⟩
  have HN4 : Hid (l4.length = len4) := s4.len8
  go_enter Try.func5, Try.ntmps5
  go_wp2_with fail
  refine (awake_any _).mono ?_
  rintro e w1 ⟨rfl, b1⟩
  replace s0 := s0.below b1
  replace s1 := s1.below b1
  replace s4 := s4.below b1
  have q0 := str_of s0
  clear hi hz0 hz1 hz2
  go_wp2_with fail
  clear q0
  cases hp : packF a0.data.toList ns with
  | none =>
    refine (BytesErr.no (Pack_any _ _ _ _ ns _ s1 (by omega)) hp).mono ?_
    rintro e w2 ⟨A2, n2, c2, rfl, s2, f2, b2⟩
    clear hp
    replace s0 := s0.below b2
    replace s1 := s1.below b2
    replace s4 := s4.below b2
    replace b1 := b1.trans (b2.mono b1.size)
    clear b2 f2
    obtain rfl : 0 = n2 := by simpa using s2.len8
    go_wp2_with fail
    refine (Unpack_any _ _ _ _ [] _ s2 (by omega)).mono ?_
    rintro e w6 ⟨A3, n3, c3, rfl, s3, f3, b3⟩
    replace s0 := s0.below b3
    replace s4 := s4.below b3
    replace b1 := b1.trans (b3.mono b1.size)
    clear b3 f3 s3 s2 s1
    generalize errOf (unpackF a0.data.toList []) 10 = er
    go_wp2_with fail
    refine (BytesErr.ok (Put_any _ _ _ l _ _ _ s0 (by omega) H0.out H1.out) (putF8i H0.out H1.out)).mono ?_
    rintro e w7 ⟨A7, n7, c7, rfl, s7, f7, b7⟩
    have hn7 : len2 + 8 = n7 := by
      have h5 := s7.len8
      have h6 := s0.len8
      rw [List.length_append, leb_length] at h5
      omega
    subst hn7
    have h7c := s7.cap
    have h7b := s7.big
    replace s0 := s0.below b7
    replace s4 := s4.below b7
    replace b1 := b1.trans (b7.mono b1.size)
    clear b7 f7
    have hcut := fun W => run_cut (P := Try.prog) 22 5 un22 el22 sz5 A7 (len2 + 8) c7 .i64 (len2 : Int) len2 rfl (by omega) W
    simp only [Nat.add_sub_cancel_left] at hcut
    have HC := (s7.alloc (.cells #[] 5)).from_ (k := len2) (by omega)
    rw [Nat.add_sub_cancel_left] at HC
    have e7 : ((l ++ leb 8 a3.toNat).map v8).drop len2 = (leb 8 a3.toNat).map v8 := by
      rw [← List.map_drop, List.drop_append_of_le_length (by have := s0.len8; omega), List.drop_eq_nil_of_le (by have := s0.len8; omega), List.nil_append]
    rw [e7] at HC
    clear e7
    have HO := Own.empty w7 5
    obtain ⟨i0, hi, hz0, hz1, hz2⟩ := info_parts i5
    go_wp2_with (at_builtin; refine wpList_app rfl (.tmp 90) (.tmp 94) 22 rfl rfl HO i0 (.int .u8 0) 1 Try.underlying22 hi hz0 hz1 hz2 rfl _ _ _ _ rfl HC (oneCell8 _) ?_ ?_ ?_)
    · omega
    · omega
    intro A8 c8 w8 hw8
    have hB8 := hw8.below_made
    have s48 := s4.below hB8
    go_wp2_with (at_builtin; refine wpList_app rfl (.tmp 95) (.tmp 96) 22 rfl rfl hw8 i0 (.int .u8 0) 1 Try.underlying22 hi hz0 hz1 hz2 rfl _ _ _ _ rfl s48 (oneCell8 _) ?_ ?_ ?_)
    · omega
    · omega
    intro A9 c9 w9 hw9
    rw [← List.map_append] at hw9
    have hB9 := hw9.below_made
    clear hw8 hB8 s48 HC HO hcut
    go_wp2_with fail
    refine (NumErr.ok (Take_any _ _ _ (leb 8 a3.toNat ++ l4) _ _ hw9.to_sl (by omega)) (takeF8 (m := a3.toNat) (by have := H0.out; have := H1.out; omega))).mono ?_
    rintro e w10 ⟨A10, n10, c10, rfl, s10, f10, b10⟩
    have hB : Below w7.heap.size w7 w10 := hB9.trans (b10.mono hB9.size)
    replace s0 := s0.below hB
    replace s4 := s4.below hB
    replace s7 := s7.below hB
    replace b1 := b1.trans (hB.mono b1.size)
    clear hB9 b10 f10 hB hw9
    have q0 := str_of s0
    have q4 := str_of s4
    have q10 := str_of s10
    have q7 : (convert 22 9 (.slice A7 len2 c7)).run Try.prog w10 = .ok (.string ⟨l.toArray⟩) w10 := str_of (by
      have := s7.upto (m := len2) (by omega)
      rwa [← List.map_take, List.take_append_of_le_length (by have := s0.len8; omega), List.take_of_length_le (by have := s0.len8; omega)] at this)
    have hmx : max a3 0 = a3 := by have := H0.out; omega
    go_wp2
    go_ret
    exact ⟨rfl, b1⟩
  | some bs =>
    refine (BytesErr.ok (Pack_any _ _ _ _ ns _ s1 (by omega)) hp).mono ?_
    rintro e w2 ⟨A2, n2, c2, rfl, s2, f2, b2⟩
    have HU := Lib.hid (unpack_pack _ _ _ hp)
    clear hp
    replace s0 := s0.below b2
    replace s1 := s1.below b2
    replace s4 := s4.below b2
    replace b1 := b1.trans (b2.mono b1.size)
    clear b2 f2
    go_wp2_with fail
    refine (NumsErr.ok (Unpack_any _ _ _ _ bs _ s2 (by omega)) HU.out).mono ?_
    rintro e w3 ⟨A3, n3, c3, rfl, s3, f3, b3⟩
    replace s0 := s0.below b3
    replace s1 := s1.below b3
    replace s4 := s4.below b3
    replace b1 := b1.trans (b3.mono b1.size)
    clear b3 f3 s2
    go_wp2_with fail
    refine (Same_eq _ _ _ _ _ _ _ _ s3 s1 (by have h5 := s1.len64; have h6 := s3.len64; omega)).mono ?_
    rintro e w6 ⟨rfl, b6⟩
    replace s0 := s0.below b6
    replace s4 := s4.below b6
    replace b1 := b1.trans (b6.mono b1.size)
    clear b6 s1 s3
    go_wp2_with fail
    refine (BytesErr.ok (Put_any _ _ _ l _ _ _ s0 (by omega) H0.out H1.out) (putF8i H0.out H1.out)).mono ?_
    rintro e w7 ⟨A7, n7, c7, rfl, s7, f7, b7⟩
    have hn7 : len2 + 8 = n7 := by
      have h5 := s7.len8
      have h6 := s0.len8
      rw [List.length_append, leb_length] at h5
      omega
    subst hn7
    have h7c := s7.cap
    have h7b := s7.big
    replace s0 := s0.below b7
    replace s4 := s4.below b7
    replace b1 := b1.trans (b7.mono b1.size)
    clear b7 f7
    have hcut := fun W => run_cut (P := Try.prog) 22 5 un22 el22 sz5 A7 (len2 + 8) c7 .i64 (len2 : Int) len2 rfl (by omega) W
    simp only [Nat.add_sub_cancel_left] at hcut
    have HC := (s7.alloc (.cells #[] 5)).from_ (k := len2) (by omega)
    rw [Nat.add_sub_cancel_left] at HC
    have e7 : ((l ++ leb 8 a3.toNat).map v8).drop len2 = (leb 8 a3.toNat).map v8 := by
      rw [← List.map_drop, List.drop_append_of_le_length (by have := s0.len8; omega), List.drop_eq_nil_of_le (by have := s0.len8; omega), List.nil_append]
    rw [e7] at HC
    clear e7
    have HO := Own.empty w7 5
    obtain ⟨i0, hi, hz0, hz1, hz2⟩ := info_parts i5
    go_wp2_with (at_builtin; refine wpList_app rfl (.tmp 90) (.tmp 94) 22 rfl rfl HO i0 (.int .u8 0) 1 Try.underlying22 hi hz0 hz1 hz2 rfl _ _ _ _ rfl HC (oneCell8 _) ?_ ?_ ?_)
    · omega
    · omega
    intro A8 c8 w8 hw8
    have hB8 := hw8.below_made
    have s48 := s4.below hB8
    go_wp2_with (at_builtin; refine wpList_app rfl (.tmp 95) (.tmp 96) 22 rfl rfl hw8 i0 (.int .u8 0) 1 Try.underlying22 hi hz0 hz1 hz2 rfl _ _ _ _ rfl s48 (oneCell8 _) ?_ ?_ ?_)
    · omega
    · omega
    intro A9 c9 w9 hw9
    rw [← List.map_append] at hw9
    have hB9 := hw9.below_made
    clear hw8 hB8 s48 HC HO hcut
    go_wp2_with fail
    refine (NumErr.ok (Take_any _ _ _ (leb 8 a3.toNat ++ l4) _ _ hw9.to_sl (by omega)) (takeF8 (m := a3.toNat) (by have := H0.out; have := H1.out; omega))).mono ?_
    rintro e w10 ⟨A10, n10, c10, rfl, s10, f10, b10⟩
    have hB : Below w7.heap.size w7 w10 := hB9.trans (b10.mono hB9.size)
    replace s0 := s0.below hB
    replace s4 := s4.below hB
    replace s7 := s7.below hB
    replace b1 := b1.trans (hB.mono b1.size)
    clear hB9 b10 f10 hB hw9
    have q0 := str_of s0
    have q4 := str_of s4
    have q10 := str_of s10
    have q7 : (convert 22 9 (.slice A7 len2 c7)).run Try.prog w10 = .ok (.string ⟨l.toArray⟩) w10 := str_of (by
      have := s7.upto (m := len2) (by omega)
      rwa [← List.map_take, List.take_append_of_le_length (by have := s0.len8; omega), List.take_of_length_le (by have := s0.len8; omega)] at this)
    have hmx : max a3 0 = a3 := by have := H0.out; omega
    go_wp2
    go_ret
    exact ⟨rfl, b1⟩
end Go.Proofs.Ytidiklgdckhpiaa
