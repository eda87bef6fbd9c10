/-
  The walk of CrcSeals.
-/
import Derived.Test.YtdjengpjbgejlaaDoorCrcGoesWalk
namespace Go.Proofs.YtdjengpjbgejlaaDoor
open Go.RowKit Go.Wag
set_option linter.unusedVariables false

theorem Tab.drewN {w : World} (hT : Tab w) (n : Nat) : Tab (w.drewN n) := hT
theorem Sum_quiet (A : Option Addr) (n c : Nat) (l : List UInt8) (v : Int) (hv : ((moreF 0#32 l).toNat : Int) = v) (w : World) (hT : Tab w) (h : Sl w A n c (l.map v8)) (k : Nat) :
    Calls Tryd.prog 14 #[.slice A n c] (w.drewN k) fun e w' => e = .returned (.int .u32 v) ∧ w' = w.drewN k :=
  (Sum_num A n c l v hv _ (hT.drewN k) (h.drewN k)).mono fun e w' ⟨he, hw⟩ => ⟨he, hw.symm⟩
theorem len_join2 (n m : Nat) (h : ¬ (300 : Int) < (n : Int)) (h2 : ¬ (300 : Int) < (m : Int)) : min (max ((n : Int) + (m : Int)) 0) 1073741824 = ((n + m : Nat) : Int) := by omega

set_option maxHeartbeats 1000000 in
theorem CrcSeals_walk (a0 : Option Addr) (len0 cap0 : Nat) (z0 : List Int) (a1 : Option Addr) (len1 cap1 : Nat) (z1 : List Int) (a2 : Option Addr) (len2 cap2 : Nat) (z2 : List Int) (w : World) (hT : Tab w) (w0 : IsRow .u8 w a0 len0 cap0 z0) (w1 : IsRow .u8 w a1 len1 cap1 z1) (w2 : IsRow .u8 w a2 len2 cap2 z2) :
    Calls Tryd.prog 7 #[.slice a0 len0 cap0, .slice a1 len1 cap1, .slice a2 len2 cap2] w (AwakePost w) := by
  obtain ⟨l0, s0⟩ := w0.bytes
  obtain ⟨l1, s1⟩ := w1.bytes
  obtain ⟨l2, s2⟩ := w2.bytes
  clear w0 w1 w2
  by_cases g0 : (300 : Int) < (len0 : Int)
  · go_enter Tryd.func7, Tryd.ntmps7
    go_wp2_with fail
    refine (crcAwake_any _ hT).mono ?_
    rintro e w1 ⟨rfl, b1⟩
    go_wp2
    go_ret
    exact ⟨rfl, b1⟩
  by_cases g1 : (300 : Int) < (len1 : Int)
  · go_enter Tryd.func7, Tryd.ntmps7
    go_wp2_with fail
    refine (crcAwake_any _ hT).mono ?_
    rintro e w1 ⟨rfl, b1⟩
    go_wp2
    go_ret
    exact ⟨rfl, b1⟩
  by_cases g2 : (300 : Int) < (len2 : Int)
  · go_enter Tryd.func7, Tryd.ntmps7
    go_wp2_with fail
    refine (crcAwake_any _ hT).mono ?_
    rintro e w1 ⟨rfl, b1⟩
    go_wp2
    go_ret
    exact ⟨rfl, b1⟩
  go_enter Tryd.func7, Tryd.ntmps7
  go_wp2_with fail
  refine (crcAwake_any _ hT).mono ?_
  rintro e w1 ⟨rfl, b1⟩
  replace s0 := s0.below b1
  replace s1 := s1.below b1
  replace s2 := s2.below b1
  have hT1 := hT.below b1
  go_wp2_with fail
  refine (Seal_any a0 len0 cap0 l0 w1 hT1 s0 (by omega)).mono ?_
  rintro e w3 ⟨A3, n3, c3, rfl, s3, f3, b3⟩
  obtain rfl : len0 + 4 = n3 := by have h5 := s3.len8; have h6 := s0.len8; rw [sealF_length] at h5; omega
  have hcap := s3.cap
  have hbig := s3.big
  replace s0 := s0.below b3
  replace s1 := s1.below b3
  replace s2 := s2.below b3
  replace b1 := b1.trans (b3.mono b1.size)
  have hT3 := hT.below b1
  clear b3 f3 hT1
  obtain ⟨p0, hp0⟩ : ∃ y, Aside (y = moreF 0#32 l0) := ⟨_, rfl⟩
  obtain ⟨p1, hp1⟩ : ∃ y, Aside (y = moreF 0#32 l1) := ⟨_, rfl⟩
  obtain ⟨p2, hp2⟩ : ∃ y, Aside (y = moreF 0#32 l2) := ⟨_, rfl⟩
  obtain ⟨j01, hj01⟩ : ∃ y, Aside (y = joinF p0 p1 len1) := ⟨_, rfl⟩
  obtain ⟨j12, hj12⟩ : ∃ y, Aside (y = joinF p1 p2 len2) := ⟨_, rfl⟩
  obtain ⟨j, hj⟩ : ∃ y, Aside (y = joinF j01 p2 len2) := ⟨_, rfl⟩
  go_wp2_with fail
  refine (Sum_num a0 len0 cap0 l0 (p0.toNat : Int) (by rw [hp0.out]) w3 hT3 s0).mono ?_
  rintro e w5 ⟨rfl, rfl⟩
  go_wp2_with fail
  refine (Sum_num a1 len1 cap1 l1 (p1.toNat : Int) (by rw [hp1.out]) w3 hT3 s1).mono ?_
  rintro e w5 ⟨rfl, rfl⟩
  go_wp2_with fail
  refine (Sum_num a2 len2 cap2 l2 (p2.toNat : Int) (by rw [hp2.out]) w3 hT3 s2).mono ?_
  rintro e w5 ⟨rfl, rfl⟩
  go_wp2_with fail
  refine (Join_num p0 p1 _ _ rfl rfl (len1 : Int) len1 (len_join _ (by omega)) (j01.toNat : Int) (by rw [hj01.out]) w3).mono ?_
  rintro e w5 ⟨rfl, rfl⟩
  go_wp2_with fail
  refine (Join_num j01 p2 _ _ rfl rfl (len2 : Int) len2 (len_join _ (by omega)) (j.toNat : Int) (by rw [hj.out]) w3).mono ?_
  rintro e w5 ⟨rfl, rfl⟩
  go_wp2_with fail
  refine (Join_num p1 p2 _ _ rfl rfl (len2 : Int) len2 (len_join _ (by omega)) (j12.toNat : Int) (by rw [hj12.out]) w3).mono ?_
  rintro e w5 ⟨rfl, rfl⟩
  go_wp2_with fail
  refine (Join_num p0 j12 _ _ rfl rfl _ (len1 + len2) (len_join2 _ _ (by omega) (by omega)) (j.toNat : Int) (by rw [hj.out, hj01.out, hj12.out, joinF_assoc]) w3).mono ?_
  rintro e w5 ⟨rfl, rfl⟩
  have q0 := fun k => str_of (s0.drewN k)
  have q3 : ∀ k, (convert 23 9 (.slice A3 len0 c3)).run Tryd.prog (w3.drewN k) = .ok (.string ⟨l0.toArray⟩) (w3.drewN k) := fun k => str_of (by
    have h6 := s0.len8
    have := (s3.drewN k).upto (m := len0) (by omega)
    rwa [← List.map_take, sealF, List.take_append_of_le_length (by omega), List.take_of_length_le (by omega)] at this)
  go_wp2_with fail
  go_quiet ((go_at_call 14; exact Calls.quiet_of_same (Sum_quiet _ _ _ (sealF l0) 1214729159 (by rw [seal_sum]; rfl) w3 hT3 s3 _)))
  go_wp2
  go_ret
  exact ⟨rfl, drewN_below b1 _⟩
end Go.Proofs.YtdjengpjbgejlaaDoor
