/-
  The walk of CrcLinear.
-/
import Derived.Test.YtdjengpjbgejlaaDoorCrcNoneWalk
import Derived.StillTailTactics
namespace Go.Proofs.YtdjengpjbgejlaaDoor
open Go.RowKit Go.Wag
set_option linter.unusedVariables false

theorem set_next (T : List UInt8) (k g : Nat) (hk : k < T.length) (z : Value) (x : UInt8) (hx : x = T[k]) : ((T.take k).map v8 ++ List.replicate (g + 1) z).set k (.int .u8 (x.toNat : Int)) = (T.take (k + 1)).map v8 ++ List.replicate g z := by
  have hl : ((T.take k).map v8).length = k := by rw [List.length_map, List.length_take]; omega
  rw [List.set_append_right _ _ (by omega), hl, Nat.sub_self, List.replicate_succ, List.set_cons_zero, List.take_succ_eq_append_getElem hk, List.map_append, List.append_assoc, hx]
  rfl
theorem xorL_at (a b : List UInt8) (k : Nat) (ha : k < a.length) (hb : k < b.length) : ∃ h : k < (xorL a b).length, (xorL a b)[k] = a[k] ^^^ b[k] := by
  refine ⟨by simp [xorL]; omega, ?_⟩
  simp [xorL]
theorem xorL_take (a b : List UInt8) (m : Nat) : (xorL a b).take m = xorL (a.take m) (b.take m) := by
  unfold xorL; rw [List.take_zipWith]

set_option maxHeartbeats 1000000 in
theorem CrcLinear_walk (a0 : Option Addr) (len0 cap0 : Nat) (z0 : List Int) (a1 : Option Addr) (len1 cap1 : Nat) (z1 : List Int) (a2 : Option Addr) (len2 cap2 : Nat) (z2 : List Int) (w : World) (hT : Tab w) (w0 : IsRow .u8 w a0 len0 cap0 z0) (w1 : IsRow .u8 w a1 len1 cap1 z1) (w2 : IsRow .u8 w a2 len2 cap2 z2) :
    Calls Tryd.prog 6 #[.slice a0 len0 cap0, .slice a1 len1 cap1, .slice a2 len2 cap2] w (AwakePost w) := by
  obtain ⟨l0, s0⟩ := w0.bytes
  obtain ⟨l1, s1⟩ := w1.bytes
  obtain ⟨l2, s2⟩ := w2.bytes
  clear w0 w1 w2
  obtain ⟨m, hmin, hm0, hm1, hm2, hm⟩ : ∃ m : Nat, (if (len2 : Int) < (if len1 < len0 then (len1 : Int) else (len0 : Int)) then (len2 : Int) else (if len1 < len0 then (len1 : Int) else (len0 : Int))) = (m : Int) ∧ m ≤ len0 ∧ m ≤ len1 ∧ m ≤ len2 ∧ Aside (m = min len0 (min len1 len2)) := by
    refine ⟨min len0 (min len1 len2), ?_, by omega, by omega, by omega, rfl⟩
    split <;> split at * <;> omega
  obtain ⟨i0, hi, hz0, hz1, hz2⟩ := info_parts i5
  have HS := s0.big
  have HSc := s0.cap
  by_cases g0 : (300 : Int) < (m : Int)
  · go_enter Tryd.func6, Tryd.ntmps6
    go_wp2_with fail
    refine (crcAwake_any _ hT).mono ?_
    rintro e w1 ⟨rfl, b1⟩
    go_wp2
    go_ret
    exact ⟨rfl, b1⟩
  have hmk := fun W => run_mk (P := Tryd.prog) 23 5 i0 (.int .u8 0) 1 Tryd.underlying23 hi hz0 hz1 hz2 rfl .i64 .i64 (m : Int) (m : Int) m m rfl rfl (by omega) (by omega) (by omega) W
  clear hi hz0 hz1 hz2
  go_enter Tryd.func6, Tryd.ntmps6
  go_wp2_with fail
  refine (crcAwake_any _ hT).mono ?_
  rintro e w1 ⟨rfl, b1⟩
  replace s0 := s0.below b1
  replace s1 := s1.below b1
  replace s2 := s2.below b1
  have hT1 := hT.below b1
  have HO := Own.made w1 (.int .u8 0) 5 m m (by omega) (by omega)
  go_wp2
  clear hmin
  go_loopg [10] m (fun g i wr => ∃ k : Nat, k + g = m ∧ i = .int .i64 (k : Int) ∧ Own w1.heap.size 5 (w1.alloc (.cells (mk0 (.int .u8 0) m) 5)) wr (.slice (some ⟨w1.heap.size, 0, none⟩) m m) (.slice (some ⟨w1.heap.size, 0, none⟩) m m) m (((xorL (xorL l0 l1) l2).take k).map v8 ++ List.replicate g (.int .u8 0)))
  case atStart => exact ⟨0, by omega, rfl, by simpa using HO⟩
  case round =>
    obtain ⟨k, hk, rfl, hw⟩ := hrel
    by_cases hlt : k < m
    · obtain ⟨g, rfl⟩ : ∃ g, gk = g + 1 := ⟨gk - 1, by omega⟩
      have hB := hw.below_made
      obtain ⟨ad0, rfl, hb0, hl0, hc0⟩ := (s0.below hB).byte (show k < len0 by omega)
      obtain ⟨ad1, rfl, hb1, hl1, hc1⟩ := (s1.below hB).byte (show k < len1 by omega)
      obtain ⟨ad2, rfl, hb2, hl2, hc2⟩ := (s2.below hB).byte (show k < len2 by omega)
      obtain ⟨x0, hx0⟩ : ∃ x : UInt8, Aside (x = l0[k]) := ⟨l0[k], rfl⟩
      obtain ⟨x1, hx1⟩ : ∃ x : UInt8, Aside (x = l1[k]) := ⟨l1[k], rfl⟩
      obtain ⟨x2, hx2⟩ : ∃ x : UInt8, Aside (x = l2[k]) := ⟨l2[k], rfl⟩
      rw [← hx0.out] at hc0
      rw [← hx1.out] at hc1
      rw [← hx2.out] at hc2
      obtain ⟨y, e1, hy⟩ : ∃ y : UInt8, bits .xor .u8 (x0.toNat : Int) (x1.toNat : Int) = (y.toNat : Int) ∧ Aside (y = x0 ^^^ x1) := ⟨_, xor8 x0 x1, rfl⟩
      obtain ⟨z, e2, hz⟩ : ∃ z : UInt8, bits .xor .u8 (y.toNat : Int) (x2.toNat : Int) = (z.toNat : Int) ∧ Aside (z = y ^^^ x2) := ⟨_, xor8 y x2, rfl⟩
      obtain ⟨gb, u, hgb, hu, hcell, hfz, hst⟩ := hw.store hlt
      obtain rfl : w1.heap.size = gb := by simpa using hgb
      go_wp2_with fail
      go_region
      go_wp2
      go_roundg g
      case measure => omega
      case rel =>
        obtain ⟨h1, q1⟩ := xorL_at l0 l1 k hl0 hl1
        obtain ⟨h2, q2⟩ := xorL_at (xorL l0 l1) l2 k h1 hl2
        have hs := (hst (.int .u8 (z.toNat : Int))).drew
        rw [set_next _ k g h2 _ z (by rw [q2, q1, hz.out, hy.out, hx0.out, hx1.out, hx2.out])] at hs
        exact ⟨k + 1, by omega, by go_num, hs⟩
    · obtain rfl : k = m := by omega
      obtain rfl : gk = 0 := by omega
      have hB := hw.below_made
      rw [List.replicate_zero, List.append_nil, xorL_take, xorL_take] at hw
      have h0 := ((s0.below hB).upto hm0)
      have h1 := ((s1.below hB).upto hm1)
      have h2 := ((s2.below hB).upto hm2)
      rw [← List.map_take] at h0 h1 h2
      have hd := hw.to_sl
      have e1 := h0.len8
      have e2 := h1.len8
      have e3 := h2.len8
      have hTr := hT1.below hB
      replace b1 := b1.trans (hB.mono b1.size)
      have hc0 := h0.cap
      have hc1 := h1.cap
      have hc2 := h2.cap
      obtain ⟨p0, hp0⟩ : ∃ y, Aside (y = moreF 0#32 (l0.take k)) := ⟨_, rfl⟩
      obtain ⟨p1, hp1⟩ : ∃ y, Aside (y = moreF 0#32 (l1.take k)) := ⟨_, rfl⟩
      obtain ⟨p2, hp2⟩ : ∃ y, Aside (y = moreF 0#32 (l2.take k)) := ⟨_, rfl⟩
      obtain ⟨p01, x1, hp01⟩ : ∃ y : W32, bits .xor .u32 (p0.toNat : Int) (p1.toNat : Int) = (y.toNat : Int) ∧ Aside (y = p0 ^^^ p1) := ⟨_, xor32 p0 p1, rfl⟩
      obtain ⟨p, x2, hp⟩ : ∃ y : W32, bits .xor .u32 (p01.toNat : Int) (p2.toNat : Int) = (y.toNat : Int) ∧ Aside (y = p01 ^^^ p2) := ⟨_, xor32 p01 p2, rfl⟩
      have hsum : ((moreF 0#32 (xorL (xorL (l0.take k) (l1.take k)) (l2.take k))).toNat : Int) = (p.toNat : Int) := by
        rw [moreF_xor3 _ _ _ (by omega) (by omega), hp.out, hp01.out, hp0.out, hp1.out, hp2.out]
      have HS := Lib.hid hsum
      clear hsum e1 e2 e3 hw hB
      go_wp2_with fail
      go_quiet ((go_at_call 14; first | exact Calls.quiet_of_same (Sum_quiet _ _ _ _ _ HS.out wr hTr hd _) | exact Calls.quiet_of_same (Sum_quiet _ _ _ _ (p0.toNat : Int) (by rw [hp0.out]) wr hTr h0 _) | exact Calls.quiet_of_same (Sum_quiet _ _ _ _ (p1.toNat : Int) (by rw [hp1.out]) wr hTr h1 _) | exact Calls.quiet_of_same (Sum_quiet _ _ _ _ (p2.toNat : Int) (by rw [hp2.out]) wr hTr h2 _)))
      go_wp2
      go_ret
      exact ⟨rfl, drewN_below b1 _⟩
end Go.Proofs.YtdjengpjbgejlaaDoor
