/-
  The walk of CrcGoes.
-/
import Derived.Test.YtdjengpjbgejlaaDoorCrcAwake
namespace Go.Proofs.YtdjengpjbgejlaaDoor
open Go.RowKit Go.Wag
set_option linter.unusedVariables false

theorem wf_w32 {n : Int} (h : (Lit.int .u32 n).wf = true) : ∃ s : W32, n = (s.toNat : Int) := by
  have := bounds_u32 h
  refine ⟨BitVec.ofNat 32 n.toNat, ?_⟩
  rw [BitVec.toNat_ofNat]
  omega
theorem len_join (n : Nat) (h : ¬ (300 : Int) < (n : Int)) : min (max (n : Int) 0) 1073741824 = (n : Int) := by omega

set_option maxHeartbeats 1000000 in
theorem CrcGoes_walk (a0 : Int) (a1 : Option Addr) (len1 cap1 : Nat) (z1 : List Int) (a2 : Option Addr) (len2 cap2 : Nat) (z2 : List Int) (w : World) (hT : Tab w) (w0 : (Lit.int .u32 a0).wf = true) (w1 : IsRow .u8 w a1 len1 cap1 z1) (w2 : IsRow .u8 w a2 len2 cap2 z2) :
    Calls Tryd.prog 4 #[.int .u32 a0, .slice a1 len1 cap1, .slice a2 len2 cap2] w (AwakePost w) := by
  obtain ⟨s, rfl⟩ := wf_w32 w0
  obtain ⟨l1, s1⟩ := w1.bytes
  obtain ⟨l2, s2⟩ := w2.bytes
  clear w0 w1 w2
  obtain ⟨i0, hi, hz0, hz1, hz2⟩ := info_parts i5
  by_cases g1 : (300 : Int) < (len1 : Int)
  · go_enter Tryd.func4, Tryd.ntmps4
    go_wp2_with fail
    refine (crcAwake_any _ hT).mono ?_
    rintro e w1 ⟨rfl, b1⟩
    go_wp2
    go_ret
    exact ⟨rfl, b1⟩
  by_cases g2 : (300 : Int) < (len2 : Int)
  · go_enter Tryd.func4, Tryd.ntmps4
    go_wp2_with fail
    refine (crcAwake_any _ hT).mono ?_
    rintro e w1 ⟨rfl, b1⟩
    go_wp2
    go_ret
    exact ⟨rfl, b1⟩
  go_enter Tryd.func4, Tryd.ntmps4
  go_wp2_with fail
  refine (crcAwake_any _ hT).mono ?_
  rintro e w1 ⟨rfl, b1⟩
  replace s1 := s1.below b1
  replace s2 := s2.below b1
  have hT1 := hT.below b1
  have HC := s1.alloc (.cells #[] 5)
  have HO := Own.empty w1 5
  go_wp2_with (at_builtin; refine wpList_app rfl (.tmp 19) (.tmp 20) 23 rfl rfl HO i0 (.int .u8 0) 1 Tryd.underlying23 hi hz0 hz1 hz2 rfl _ _ _ _ rfl HC (oneCell8 _) ?_ ?_ ?_)
  · omega
  · omega
  intro A3 c3 w3 hw3
  have hB3 := hw3.below_made
  have s23 := s2.below hB3
  go_wp2_with (at_builtin; refine wpList_app rfl (.tmp 21) (.tmp 22) 23 rfl rfl hw3 i0 (.int .u8 0) 1 Tryd.underlying23 hi hz0 hz1 hz2 rfl _ _ _ _ rfl s23 (oneCell8 _) ?_ ?_ ?_)
  · omega
  · omega
  intro A4 c4 w4 hw4
  rw [← List.map_append] at hw4
  have hB4 := hw4.below_made
  have s4 := hw4.to_sl
  replace s1 := s1.below hB4
  replace s2 := s2.below hB4
  have hT4 := hT1.below hB4
  replace b1 := b1.trans (hB4.mono b1.size)
  have HL : Hid (l2.length = len2) := s2.len8
  clear hw3 hB3 s23 HC HO hw4 hB4 hT1 hi hz0 hz1 hz2
  obtain ⟨x, hx⟩ : ∃ x, Aside (x = moreF s (l1 ++ l2)) := ⟨_, rfl⟩
  obtain ⟨y, hy⟩ : ∃ y, Aside (y = moreF 0#32 (l1 ++ l2)) := ⟨_, rfl⟩
  obtain ⟨p, hp⟩ : ∃ y, Aside (y = moreF s l1) := ⟨_, rfl⟩
  obtain ⟨p1, hp1⟩ : ∃ y, Aside (y = moreF 0#32 l1) := ⟨_, rfl⟩
  obtain ⟨p2, hp2⟩ : ∃ y, Aside (y = moreF 0#32 l2) := ⟨_, rfl⟩
  go_wp2_with fail
  refine (More_num s _ rfl a1 len1 cap1 l1 (p.toNat : Int) (by rw [hp.out]) w4 hT4 s1).mono ?_
  rintro e w5 ⟨rfl, rfl⟩
  go_wp2_with fail
  refine (More_num p _ rfl a2 len2 cap2 l2 (x.toNat : Int) (by rw [hp.out, hx.out, moreF_append]) w4 hT4 s2).mono ?_
  rintro e w5 ⟨rfl, rfl⟩
  go_wp2_with fail
  refine (More_num s _ rfl A4 _ c4 (l1 ++ l2) (x.toNat : Int) (by rw [hx.out]) w4 hT4 s4).mono ?_
  rintro e w5 ⟨rfl, rfl⟩
  go_wp2_with fail
  refine (Sum_num a1 len1 cap1 l1 (p1.toNat : Int) (by rw [hp1.out]) w4 hT4 s1).mono ?_
  rintro e w5 ⟨rfl, rfl⟩
  go_wp2_with fail
  refine (Sum_num a2 len2 cap2 l2 (p2.toNat : Int) (by rw [hp2.out]) w4 hT4 s2).mono ?_
  rintro e w5 ⟨rfl, rfl⟩
  go_wp2_with fail
  refine (Join_num p1 p2 _ _ rfl rfl (len2 : Int) len2 (len_join _ (by omega)) (y.toNat : Int) (by rw [hp1.out, hp2.out, hy.out, ← HL.out, joinF_sums]) w4).mono ?_
  rintro e w5 ⟨rfl, rfl⟩
  go_wp2_with fail
  refine (Sum_num A4 _ c4 (l1 ++ l2) (y.toNat : Int) (by rw [hy.out]) w4 hT4 s4).mono ?_
  rintro e w5 ⟨rfl, rfl⟩
  go_wp2_with fail
  refine (More_num s _ rfl none 0 0 [] (s.toNat : Int) (by rw [moreF_nil]) w4 hT4 (Sl.nil _)).mono ?_
  rintro e w5 ⟨rfl, rfl⟩
  go_wp2
  go_ret
  exact ⟨rfl, b1⟩
end Go.Proofs.YtdjengpjbgejlaaDoor
