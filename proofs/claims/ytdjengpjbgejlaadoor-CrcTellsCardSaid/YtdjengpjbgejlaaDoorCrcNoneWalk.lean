/-
  The walk of CrcNone.
-/
import Derived.Test.YtdjengpjbgejlaaDoorCrcSealsWalk
import Derived.Test.YtdjengpjbgejlaaDoorStore
namespace Go.Proofs.YtdjengpjbgejlaaDoor
open Go.RowKit Go.Wag
set_option linter.unusedVariables false

theorem wf_b8 {n : Int} (h : (Lit.int .u8 n).wf = true) : ∃ s : UInt8, n = (s.toNat : Int) := by
  have := wf_u8 h
  refine ⟨UInt8.ofNat n.toNat, ?_⟩
  have e : (UInt8.ofNat n.toNat).toNat = n.toNat % 256 := by simp
  omega
theorem xor8 (c d : UInt8) : bits .xor .u8 (c.toNat : Int) (d.toNat : Int) = ((c ^^^ d).toNat : Int) := by
  rw [u8_xor_nat _ _ c.toNat_lt d.toNat_lt, UInt8.toNat_xor]
theorem set_v8 (l : List UInt8) (k : Nat) (d : UInt8) : (l.map v8).set k (.int .u8 (d.toNat : Int)) = (l.set k d).map v8 := by
  rw [List.map_set]; rfl
/-- A text of which one byte is changed has the same sum just if it is not. -/
theorem sum_set (l : List UInt8) (k : Nat) (hk : k < l.length) (d : UInt8) : (((moreF 0#32 (l.set k (l[k] ^^^ d))).toNat : Int) == ((moreF 0#32 l).toNat : Int)) = ((d.toNat : Int) == 0) := by
  rw [Bool.eq_iff_iff, beq_iff_eq, beq_iff_eq]
  constructor
  · intro h
    have h1 : moreF 0#32 (l.set k (l[k] ^^^ d)) = moreF 0#32 l := BitVec.eq_of_toNat_eq (by omega)
    unfold moreF at h1
    have h2 : raw (0#32 ^^^ ones) (l.set k (l[k] ^^^ d)) = raw (0#32 ^^^ ones) l := by
      have := congrArg (· ^^^ ones) h1
      simpa only [BitVec.xor_assoc, BitVec.xor_self, BitVec.xor_zero] using this
    rw [raw_set_ne hk h2]; rfl
  · intro h
    have : d = 0 := UInt8.toNat_inj.1 (by show d.toNat = 0; omega)
    subst this
    rw [UInt8.xor_zero, List.set_getElem_self]

set_option maxHeartbeats 1000000 in
theorem CrcNone_walk (a0 : Option Addr) (len0 cap0 : Nat) (z0 : List Int) (a1 : Int) (a2 : Int) (w : World) (hT : Tab w) (w0 : IsRow .u8 w a0 len0 cap0 z0) (w1 : (Lit.int .u16 a1).wf = true) (w2 : (Lit.int .u8 a2).wf = true) :
    Calls Tryd.prog 8 #[.slice a0 len0 cap0, .int .u16 a1, .int .u8 a2] w (AwakePost w) := by
  obtain ⟨l0, s0⟩ := w0.bytes
  have hb1 := bounds_u16 w1
  obtain ⟨d, rfl⟩ := wf_b8 w2
  clear w0 w1 w2
  obtain ⟨i0, hi, hz0, hz1, hz2⟩ := info_parts i5
  by_cases g0 : ((len0 : Int) == 0) = true
  · go_enter Tryd.func8, Tryd.ntmps8
    go_wp2_with fail
    refine (crcAwake_any _ hT).mono ?_
    rintro e w1 ⟨rfl, b1⟩
    go_wp2
    go_ret
    exact ⟨rfl, b1⟩
  by_cases g1 : (300 : Int) < (len0 : Int)
  · go_enter Tryd.func8, Tryd.ntmps8
    go_wp2_with fail
    refine (crcAwake_any _ hT).mono ?_
    rintro e w1 ⟨rfl, b1⟩
    go_wp2
    go_ret
    exact ⟨rfl, b1⟩
  go_enter Tryd.func8, Tryd.ntmps8
  go_wp2_with fail
  refine (crcAwake_any _ hT).mono ?_
  rintro e w1 ⟨rfl, b1⟩
  replace s0 := s0.below b1
  have hT1 := hT.below b1
  obtain ⟨p, hp⟩ : ∃ y, Aside (y = moreF 0#32 l0) := ⟨_, rfl⟩
  go_wp2_with fail
  refine (Sum_num a0 len0 cap0 l0 (p.toNat : Int) (by rw [hp.out]) w1 hT1 s0).mono ?_
  rintro e w5 ⟨rfl, rfl⟩
  have HC := s0.alloc (.cells #[] 5)
  have HO := Own.empty w1 5
  go_wp2_with (at_builtin; refine wpList_app rfl (.tmp 23) (.tmp 24) 23 rfl rfl HO i0 (.int .u8 0) 1 Tryd.underlying23 hi hz0 hz1 hz2 rfl _ _ _ _ rfl HC (oneCell8 _) ?_ ?_ ?_)
  · omega
  · omega
  intro A3 c3 w3 hw3
  have hne : ¬ len0 = 0 := by simpa using g0
  have HL : Hid (l0.length = len0) := s0.len8
  obtain ⟨k, hk, hkl⟩ : ∃ k : Nat, a1 % (len0 : Int) = (k : Int) ∧ k < len0 := by
    have h1 := Int.emod_nonneg a1 (b := (len0 : Int)) (by omega)
    have h2 := Int.emod_lt_of_pos a1 (b := (len0 : Int)) (by omega)
    exact ⟨(a1 % (len0 : Int)).toNat, by omega, by omega⟩
  have hkl' : k < l0.length := by rw [HL.out]; exact hkl
  obtain ⟨g, u, rfl, hu, hcell, hfz, hst⟩ := hw3.store hkl
  obtain ⟨x, hx⟩ : ∃ x : UInt8, Aside (x = l0[k]) := ⟨l0[k], rfl⟩
  obtain rfl : u = .int .u8 (x.toNat : Int) := by
    rw [List.getElem?_map, List.getElem?_eq_getElem hkl', ← hx.out] at hu
    simpa [v8] using hu.symm
  obtain ⟨y, hy, hyx⟩ : ∃ y : UInt8, bits .xor .u8 (x.toNat : Int) (d.toNat : Int) = (y.toNat : Int) ∧ Aside (y = x ^^^ d) := ⟨_, xor8 x d, rfl⟩
  have hw4 := hst (.int .u8 (y.toNat : Int))
  rw [set_v8] at hw4
  have hB4 := hw4.below_made
  have s4 := hw4.to_sl
  have hT4 := hT1.below hB4
  replace b1 := b1.trans (hB4.mono b1.size)
  have s04 := s0.below hB4
  clear hw3 hu hst HC HO hw4 hB4 hi hz0 hz1 hz2
  obtain ⟨q, hq⟩ : ∃ y', Aside (y' = moreF 0#32 (l0.set k y)) := ⟨_, rfl⟩
  have hqp : ((q.toNat : Int) == (p.toNat : Int)) = ((d.toNat : Int) == 0) := by
    rw [hq.out, hp.out, hyx.out, hx.out]
    exact sum_set l0 k hkl' d
  generalize hw4 : w3.setCell ⟨g, k, none⟩ (.int .u8 (y.toNat : Int)) = w4 at *
  go_wp2_with fail
  refine (Sum_num none 0 0 [] 0 (by decide +kernel) w4 hT4 (Sl.nil _)).mono ?_
  rintro e w5 ⟨rfl, rfl⟩
  go_wp2_with fail
  refine (More_num p _ rfl none 0 0 [] (p.toNat : Int) (by rw [moreF_nil]) w4 hT4 (Sl.nil _)).mono ?_
  rintro e w5 ⟨rfl, rfl⟩
  go_wp2_with fail
  refine (Join_num p 0#32 _ 0 rfl rfl 0 0 (by decide) (p.toNat : Int) (by unfold joinF; rw [BitVec.xor_zero]; rfl) w4).mono ?_
  rintro e w5 ⟨rfl, rfl⟩
  go_wp2_with fail
  refine (Join_num 0#32 p 0 _ rfl rfl (len0 : Int) len0 (len_join _ (by omega)) (p.toNat : Int) (by unfold joinF; rw [steps_zero, BitVec.zero_xor]) w4).mono ?_
  rintro e w5 ⟨rfl, rfl⟩
  go_wp2_with fail
  refine (Sum_num none 0 0 [] 0 (by decide +kernel) w4 hT4 (Sl.nil _)).mono ?_
  rintro e w5 ⟨rfl, rfl⟩
  go_wp2_with fail
  refine (Join_num p 0#32 _ 0 rfl rfl (-5) 0 (by decide) (p.toNat : Int) (by unfold joinF; rw [BitVec.xor_zero]; rfl) w4).mono ?_
  rintro e w5 ⟨rfl, rfl⟩
  go_wp2_with fail
  refine (Sum_num _ len0 c3 (l0.set k y) (q.toNat : Int) (by rw [hq.out]) w4 hT4 s4).mono ?_
  rintro e w5 ⟨rfl, rfl⟩
  go_wp2
  go_ret
  exact ⟨rfl, b1⟩
end Go.Proofs.YtdjengpjbgejlaaDoor
