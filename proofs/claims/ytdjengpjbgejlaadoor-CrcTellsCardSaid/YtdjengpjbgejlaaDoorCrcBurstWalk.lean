/-
  The walk of CrcBurst.
-/
import Derived.Test.YtdjengpjbgejlaaDoorCrcLinearWalk
namespace Go.Proofs.YtdjengpjbgejlaaDoor
open Go.RowKit Go.Wag
set_option linter.unusedVariables false

theorem bit_form (v : W32) (k : Nat) : (((v.toNat : Int) / 2 ^ k).tmod 2 == 1) = v.getLsbD k := by
  have e : (v.toNat : Int) / 2 ^ k = ((v.toNat / 2 ^ k : Nat) : Int) := by
    have h2 : (2 : Int) ^ k = ((2 ^ k : Nat) : Int) := by simp
    rw [h2]; exact (Int.natCast_ediv _ _).symm
  rw [e, Int.tmod_eq_emod_of_nonneg (Int.natCast_nonneg _), Bool.eq_iff_iff, beq_iff_eq]
  have : v.getLsbD k = decide (v.toNat / 2 ^ k % 2 = 1) := by
    rw [BitVec.getLsbD, Nat.testBit_eq_decide_div_mod_eq]
  rw [this, decide_eq_true_eq]
  generalize v.toNat / 2 ^ k = q
  omega
theorem bit_no (v : W32) (k : Nat) (h : v.getLsbD k = false) : (((v.toNat : Int) / 2 ^ k).tmod 2 == 1) = false := by rw [bit_form, h]
theorem bit_yes (v : W32) (k : Nat) (h : v.getLsbD k = true) : (((v.toNat : Int) / 2 ^ k).tmod 2 == 1) = true := by rw [bit_form, h]

theorem flip_form (x : UInt8) (r : Nat) (h : r < 8) : bits .xor .u8 (x.toNat : Int) (2 ^ r % 256) = ((x ^^^ (1 <<< UInt8.ofNat r)).toNat : Int) := by
  have e2 : ∀ i : Fin 8, ((2 : Int) ^ i.val % (256 : Int)) = ((1 <<< UInt8.ofNat i.val : UInt8).toNat : Int) := by decide
  have e3 : (2 : Int) ^ r % (256 : Int) = _ := e2 ⟨r, h⟩
  rw [e3, xor8]

set_option maxHeartbeats 1000000 in
theorem CrcBurst_walk (a0 : Option Addr) (len0 cap0 : Nat) (z0 : List Int) (a1 : Int) (a2 : Int) (w : World) (hT : Tab w) (w0 : IsRow .u8 w a0 len0 cap0 z0) (w1 : (Lit.int .u16 a1).wf = true) (w2 : (Lit.int .u32 a2).wf = true) :
    Calls Tryd.prog 5 #[.slice a0 len0 cap0, .int .u16 a1, .int .u32 a2] w (AwakePost w) := by
  obtain ⟨l0, s0⟩ := w0.bytes
  have hb1 := bounds_u16 w1
  obtain ⟨v, rfl⟩ := wf_w32 w2
  clear w0 w1 w2
  obtain ⟨i0, hi, hz0, hz1, hz2⟩ := info_parts i5
  by_cases g0 : (300 : Int) < (len0 : Int)
  · go_enter Tryd.func5, Tryd.ntmps5
    go_wp2_with fail
    refine (crcAwake_any _ hT).mono ?_
    rintro e w1 ⟨rfl, b1⟩
    go_wp2
    go_ret
    exact ⟨rfl, b1⟩
  go_enter Tryd.func5, Tryd.ntmps5
  go_wp2_with fail
  refine (crcAwake_any _ hT).mono ?_
  rintro e w1 ⟨rfl, b1⟩
  replace s0 := s0.below b1
  have hT1 := hT.below b1
  go_wp2_with fail
  refine (Seal_any a0 len0 cap0 l0 w1 hT1 s0 (by omega)).mono ?_
  rintro e w3 ⟨A3, n3, c3, rfl, s3, f3, b3⟩
  obtain rfl : len0 + 4 = n3 := by have h5 := s3.len8; have h6 := s0.len8; rw [sealF_length] at h5; omega
  replace s0 := s0.below b3
  replace b1 := b1.trans (b3.mono b1.size)
  have hT3 := hT.below b1
  clear b3 f3 hT1
  have HC := s3.alloc (.cells #[] 5)
  have HO := Own.empty w3 5
  go_wp2_with (at_builtin; refine wpList_app rfl (.tmp 30) (.tmp 31) 23 rfl rfl HO i0 (.int .u8 0) 1 Tryd.underlying23 hi hz0 hz1 hz2 rfl _ _ _ _ rfl HC (oneCell8 _) ?_ ?_ ?_)
  · omega
  · omega
  intro A4 c4 w4 hw4
  obtain ⟨f, hf, hfl⟩ : ∃ f : Nat, a1 % (8 * ((len0 : Int) + 4) - 31) = (f : Int) ∧ f + 32 ≤ 8 * (len0 + 4) := by
    have h1 := Int.emod_nonneg a1 (b := 8 * ((len0 : Int) + 4) - 31) (by omega)
    have h2 := Int.emod_lt_of_pos a1 (b := 8 * ((len0 : Int) + 4) - 31) (by omega)
    exact ⟨(a1 % (8 * ((len0 : Int) + 4) - 31)).toNat, by omega, by omega⟩
  have HLs : Hid ((sealF l0).length = len0 + 4) := s3.len8
  go_wp2
  simp only [hf]
  clear hf HC HO hi hz0 hz1 hz2
  go_loopg [11] 32 (fun g i wr => ∃ k : Nat, k + g = 32 ∧ i = .int .i64 (k : Int) ∧ ∃ tl : List UInt8, Aside (tl.length = (sealF l0).length ∧ raw ones tl = raw ones (sealF l0) ^^^ steps (8 * (sealF l0).length - f) (lowb k v)) ∧ Own w3.heap.size 5 (w3.alloc (.cells #[] 5)) wr (.slice (some ⟨w3.heap.size, 0, none⟩) 0 0) (.slice A4 (len0 + 4) c4) (len0 + 4) (tl.map v8))
  case atStart => exact ⟨0, by omega, rfl, sealF l0, ⟨rfl, by rw [lowb, steps_zero, BitVec.xor_zero]⟩, hw4⟩
  case round =>
    clear hw4
    obtain ⟨k, hk, rfl, tl, hA, hw⟩ := hrel
    by_cases hlt : (k : Int) < 32
    · obtain ⟨g, rfl⟩ : ∃ g, gk = g + 1 := ⟨gk - 1, by omega⟩
      obtain ⟨j, r, ej, er, hjl, hA2⟩ : ∃ j r : Nat, ((f : Int) + (k : Int)).tdiv 8 = (j : Int) ∧ ((f : Int) + (k : Int)).tmod 8 = (r : Int) ∧ j < len0 + 4 ∧ Aside (j = (f + k) / 8 ∧ r = (f + k) % 8) := by
        refine ⟨(f + k) / 8, (f + k) % 8, ?_, ?_, by omega, rfl, rfl⟩
        · rw [Int.tdiv_eq_ediv_of_nonneg (by omega)]; omega
        · rw [Int.tmod_eq_emod_of_nonneg (by omega)]; omega
      obtain ⟨gb, u, rfl, hu, hcell, hfz, hst⟩ := hw.store hjl
      have hjt : j < tl.length := by rw [hA.out.1, HLs.out]; exact hjl
      obtain ⟨x, hx⟩ : ∃ x : UInt8, Aside (x = tl[j]) := ⟨tl[j], rfl⟩
      obtain rfl : u = .int .u8 (x.toNat : Int) := by
        rw [List.getElem?_map, List.getElem?_eq_getElem hjt, ← hx.out] at hu
        simpa [v8] using hu.symm
      cases hv : v.getLsbD k
      · have ht := bit_no v k hv
        go_wp2
        go_roundg g
        case measure => omega
        case rel => exact ⟨k + 1, by omega, rfl, tl, ⟨hA.out.1, by rw [lowb, hv]; simpa using hA.out.2⟩, hw⟩
      · have ht := bit_yes v k hv
        have hr8 : r < 8 := by rw [hA2.out.2]; omega
        obtain ⟨y, ey, hy⟩ : ∃ y : UInt8, bits .xor .u8 (x.toNat : Int) (2 ^ r % 256) = (y.toNat : Int) ∧ Aside (y = x ^^^ (1 <<< UInt8.ofNat r)) := ⟨_, flip_form x r hr8, rfl⟩
        have hw5 := hst (.int .u8 (y.toNat : Int))
        rw [set_v8] at hw5
        clear hst
        go_wp2
        go_roundg g
        case measure => omega
        case rel =>
          refine ⟨k + 1, by omega, rfl, tl.set j y, ⟨by rw [List.length_set]; exact hA.out.1, ?_⟩, hw5⟩
          obtain ⟨rfl, rfl⟩ := hA2.out
          rw [hy.out, hx.out]
          exact raw_burst (by omega) hA.out.1 (by rw [HLs.out]; exact hfl) hA.out.2 hjt hv _ (b32_bit _ hr8)
    · obtain rfl : k = 32 := by omega
      have hB := hw.below_made
      have s5 := hw.to_sl
      have hTr := hT3.below hB
      have s3r := s3.below hB
      have s0r := s0.below hB
      replace b1 := b1.trans (hB.mono b1.size)
      clear hw hB hTr s3 s0
      have hop := burst_opens hA.out.1 (by rw [HLs.out]; omega) (raw_seal l0) (by have := hA.out.2; rwa [lowb_all] at this)
      have hTr := hT.below b1
      by_cases hv : v = 0#32
      · subst hv
        obtain ⟨q, hq⟩ := Option.isSome_iff_exists.1 (hop.2 rfl)
        clear hop
        go_wp2_with fail
        refine (BytesErr.ok (Open_any _ _ _ _ _ hTr s3r (by omega)) (open_seal l0)).mono ?_
        rintro e w5 ⟨A5, n5, c5, rfl, s6, f6, b6⟩
        have s5' := s5.below b6
        have s0' := s0r.below b6
        replace b1 := b1.trans (b6.mono b1.size)
        have hT5 := hT.below b1
        clear b6 f6 s0r
        go_wp2_with fail
        refine (BytesErr.ok (Open_any _ _ _ _ _ hT5 s5' (by omega)) hq).mono ?_
        rintro e w7 ⟨A7, n7, c7, rfl, s7, f7, b7⟩
        have q6 := str_of (s6.below b7)
        have q0 := str_of (s0'.below b7)
        go_wp2
        go_ret
        exact ⟨rfl, b1.trans (b7.mono b1.size)⟩
      · have hq : openF tl = none := by
          cases h : openF tl with
          | none => rfl
          | some q => exact absurd (hop.1 (by rw [h]; rfl)) hv
        have hvi : ((v.toNat : Int) == 0) = false := by
          rw [beq_eq_false_iff_ne]
          intro h
          exact hv (BitVec.eq_of_toNat_eq (by show v.toNat = 0; omega))
        clear hop
        go_wp2_with fail
        refine (BytesErr.ok (Open_any _ _ _ _ _ hTr s3r (by omega)) (open_seal l0)).mono ?_
        rintro e w5 ⟨A5, n5, c5, rfl, s6, f6, b6⟩
        have s5' := s5.below b6
        have s0' := s0r.below b6
        replace b1 := b1.trans (b6.mono b1.size)
        have hT5 := hT.below b1
        clear b6 f6 s0r
        go_wp2_with fail
        refine (BytesErr.no (Open_any _ _ _ _ _ hT5 s5' (by omega)) hq).mono ?_
        rintro e w7 ⟨A7, n7, c7, rfl, s7, f7, b7⟩
        obtain rfl : n7 = 0 := by simpa using s7.len8.symm
        have q6 := str_of (s6.below b7)
        have q0 := str_of (s0'.below b7)
        go_wp2
        go_ret
        exact ⟨rfl, b1.trans (b7.mono b1.size)⟩
end Go.Proofs.YtdjengpjbgejlaaDoor
