/-
  ImageFills: the walk (written by gen_imfills.py).
-/
import Derived.Test.YtepaojegcaapfaaImC
import Derived.Test.YtepaojegcaapfaaArgs
import Derived.BigQuiet
namespace Go.Wag
open Go.RowKit
theorem fill_open {l : List Cp} {lba n kd g : Int} (h : fillMay l lba n kd g = true) : hasF l.length lba n = true ∧ (kd = 0 ∨ kd = 1) ∧ genF g = true := by
  unfold fillMay at h
  rw [Bool.and_eq_true, Bool.and_eq_true] at h
  exact ⟨h.1.1, of_decide_eq_true h.1.2, h.2⟩
end Go.Wag
namespace Go.Proofs.Ytepaojegcaapfaa
open Go.RowKit Go.Wag
set_option linter.unusedVariables false
set_option linter.unusedSimpArgs false
set_option maxRecDepth 100000 in
set_option maxHeartbeats 8000000 in
theorem imFills_core {G : Nat → Prop} (xs : List Cp) (A : Option Addr) (n c : Nat) (lba m kd g : Int) (w : World) (h : Rs cpE G w A n c xs) (hlb : lba ≤ 9223372036854775807) :
    Calls Try.prog 11 #[.slice A n c, .int .i64 lba, .int .i64 m, .int .i64 kd, .int .i64 g] w (AwakePost w) := by
  have HN : Hid (xs.length = n) := h.len
  have hcap := h.cap
  have hbig := h.big
  have hwfs := Lib.hid h.wfs
  have bb := Below.refl w.heap.size w
  go_enter Try.func11, Try.ntmps11
  go_wp2_with fail
  have hC := awake9_any w
  refine hC.mono ?_
  clear hC
  rintro e w1 ⟨rfl, b1⟩
  replace h := h.below b1
  replace bb := bb.trans (b1.mono bb.size)
  by_cases h1 : (n : Int) > 64
  · go_wp2
    go_ret
    exact ⟨rfl, bb⟩
  have hC0 := iCheck_any xs A n c w1 h
  cases hm : ichk xs
  · rw [hm] at hC0
    go_wp2_with fail
    have hC := hC0
    refine hC.mono ?_
    clear hC
    rintro e w2 ⟨rfl, b2⟩
    replace h := h.below b2
    replace bb := bb.trans (b2.mono bb.size)
    go_wp2
    go_ret
    exact ⟨rfl, bb⟩
  rw [hm] at hC0
  go_wp2_with fail
  have hC := hC0
  refine hC.mono ?_
  clear hC
  rintro e w2 ⟨rfl, b2⟩
  replace h := h.below b2
  replace bb := bb.trans (b2.mono bb.size)
  clear hC0
  have hC0 := iFill_any xs A n c lba m kd g w2 h (by omega) hlb
  cases hw : fillMay xs lba m kd g
  · rw [doneL_may hm hw, doneE_may hm hw] at hC0
    go_wp2_with fail
    have hC := hC0
    refine hC.mono ?_
    clear hC
    rintro e w3 ⟨A3, n3, c3, h3', rfl, R3, b3⟩
    replace h := h.below b3
    replace bb := bb.trans (b3.mono bb.size)
    obtain rfl : n = n3 := HN.out.symm.trans h3'.out
    go_wp2_with fail
    have hC := iAlike_any xs xs A3 n c3 A n c w3 R3 h
    refine hC.mono ?_
    clear hC
    rintro e w4 ⟨rfl, b4⟩
    replace h := h.below b4
    replace R3 := R3.below b4
    replace bb := bb.trans (b4.mono bb.size)
    rw [alike_self]
    go_wp2
    go_ret
    exact ⟨rfl, bb⟩
  clear hC0
  obtain ⟨p1, hkd, hg⟩ := fill_open hw
  obtain ⟨a, mm, rfl, rfl, hm1, hfit⟩ := has_nat p1
  rw [HN.out] at hfit
  obtain ⟨M, bs, was, now, lM, cM', lb, lw, ln, ⟨f1, g1⟩, ⟨f2, g2⟩, ⟨f3, g3⟩, ⟨f4, g4⟩, ⟨f5, g5⟩, hout⟩ := im_fills HN.out (fun x hx => (hwfs.out x hx).len) hm hkd hg hm1 hfit
  clear hm hw p1 hkd hg
  obtain ⟨N, hNN⟩ : ∃ v, 32 * n = v := ⟨_, rfl⟩
  obtain ⟨Q, hQQ⟩ : ∃ v, 32 * mm = v := ⟨_, rfl⟩
  rw [hNN] at lw ln hout
  rw [hQQ] at lb
  have hNb : N ≤ 2048 := by omega
  replace f1 := Lib.hid f1
  replace g1 := Lib.hid g1
  replace f2 := Lib.hid f2
  replace g2 := Lib.hid g2
  replace f3 := Lib.hid f3
  replace g3 := Lib.hid g3
  replace f4 := Lib.hid f4
  replace g4 := Lib.hid g4
  replace f5 := Lib.hid f5
  replace g5 := Lib.hid g5
  replace hout := Lib.hid hout
  replace lw := Lib.hid lw
  replace ln := Lib.hid ln
  replace lb := Lib.hid lb
  replace lM := Lib.hid lM
  have hC0 := CErr.at (iFill_any xs A n c a (mm : Int) kd g w2 h (by omega) (by omega)) f1.out g1.out
  go_wp2_with fail
  have hC := hC0
  refine hC.mono ?_
  clear hC
  rintro e w3 ⟨AM, nM, cM, hM, rfl, RM, b3⟩
  replace h := h.below b3
  replace bb := bb.trans (b3.mono bb.size)
  clear hC0
  obtain rfl : n = nM := lM.out.symm.trans hM.out
  clear hM
  have hC0 := CErr.at (iFill_any M AM n cM a (mm : Int) kd g w3 RM (by omega) (by omega)) f2.out g2.out
  go_wp2_with fail
  have hC := hC0
  refine hC.mono ?_
  clear hC
  rintro e w4 ⟨AO, nO, cO, hO, rfl, RO, b4⟩
  replace h := h.below b4
  replace RM := RM.below b4
  replace bb := bb.trans (b4.mono bb.size)
  clear hC0
  obtain rfl : n = nO := lM.out.symm.trans hO.out
  clear hO
  have hC0 := BErr.at (iRead_any M AM n cM a (mm : Int) w4 RM (by omega) (by omega)) f3.out g3.out
  go_wp2_with fail
  have hC := hC0
  refine hC.mono ?_
  clear hC
  rintro e w5 ⟨AB, nB, cB, hB, rfl, SB, _, b3⟩
  replace h := h.below b3
  replace RM := RM.below b3
  replace RO := RO.below b3
  replace bb := bb.trans (b3.mono bb.size)
  clear hC0
  obtain rfl : Q = nB := lb.out.symm.trans hB.out
  clear hB
  have hC0 := BErr.at (iRead_any xs A n c 0 (n : Int) w5 h (by omega) (by omega)) f4.out g4.out
  go_wp2_with fail
  have hC := hC0
  refine hC.mono ?_
  clear hC
  rintro e w6 ⟨AW, nW, cW, hW, rfl, SW, _, b4⟩
  replace h := h.below b4
  replace RM := RM.below b4
  replace RO := RO.below b4
  replace SB := SB.below b4
  replace bb := bb.trans (b4.mono bb.size)
  clear hC0
  obtain rfl : N = nW := lw.out.symm.trans hW.out
  clear hW
  have hC0 := BErr.at (iRead_any M AM n cM 0 (n : Int) w6 RM (by omega) (by omega)) f5.out g5.out
  go_wp2_with fail
  have hC := hC0
  refine hC.mono ?_
  clear hC
  rintro e w7 ⟨AZ, nZ, cZ, hZ, rfl, SZ, _, b5⟩
  replace h := h.below b5
  replace RM := RM.below b5
  replace RO := RO.below b5
  replace SB := SB.below b5
  replace SW := SW.below b5
  replace bb := bb.trans (b5.mono bb.size)
  clear hC0
  obtain rfl : N = nZ := ln.out.symm.trans hZ.out
  clear hZ
  have hq1 : 32 * (mm : Int) = (Q : Int) := by omega
  have hq2 : ((Q : Int) != (Q : Int)) = false := by simp
  have hq3 : ((N : Int) != (N : Int)) = false := by simp
  have hcW := SW.cap
  have hbW := SW.big
  have hcZ := SZ.cap
  have hbZ := SZ.big
  go_wp2_with fail
  go_loopg [22] N (fun q i wr => Below w7.heap.size w7 wr ∧ ∃ k : Nat, k + q = N ∧ i = .int .i64 (k : Int))
  case atStart => exact ⟨Below.refl _ _, 0, by omega, rfl⟩
  case round =>
    obtain ⟨bL, k, hk, rfl⟩ := hrel
    by_cases hlt : (k : Int) < (N : Int)
    · obtain ⟨s, rfl⟩ : ∃ s, gk = s + 1 := ⟨gk - 1, by omega⟩
      obtain ⟨j, hj⟩ : ∃ j, k / 32 = j := ⟨_, rfl⟩
      have t1 : Int.tdiv (k : Int) 32 = (j : Int) := by rw [Int.tdiv_eq_ediv_of_nonneg (by omega)]; omega
      have t2 : (k : Int) / 32 = (j : Int) := by omega
      have hjb : j ≤ 64 := by omega
      obtain ⟨ad, hAd, hb2, hl2, hc2⟩ := (SZ.below bL).byte (show k < N by omega)
      obtain ⟨ad3, hAd3, hb3, hl3, hc3⟩ := (SW.below bL).byte (show k < N by omega)
      subst hAd hAd3
      have ho := hout.out k (by omega)
      rw [List.getElem?_eq_getElem hl2, List.getElem?_eq_getElem hl3, hj] at ho
      replace hj := Lib.hid hj
      by_cases hka : (j : Int) ≥ (a : Int)
      · by_cases hkb : (j : Int) < (a : Int) + (mm : Int)
        · have e := Option.some.inj (ho.1 (by omega))
          clear ho hc3
          rw [e, show (((0 : UInt8).toNat : Nat) : Int) = 0 from rfl] at hc2
          clear e
          go_wp2_with fail
          go_quiet (fail)
          go_wp2
          go_roundg s
          case measure => omega
          case rel => exact ⟨drewN_below bL _, k + 1, by omega, by go_num⟩
        · skip
          have e := Option.some.inj (ho.2 (by omega))
          clear ho
          rw [e] at hc2
          generalize ((was[k]'hl3).toNat : Int) = x at hc2 hc3
          clear e
          have hbn : (x != x) = false := by simp
          go_wp2_with fail
          go_quiet (fail)
          go_wp2
          go_roundg s
          case measure => omega
          case rel => exact ⟨drewN_below bL _, k + 1, by omega, by go_num⟩
      · skip
        have e := Option.some.inj (ho.2 (by omega))
        clear ho
        rw [e] at hc2
        generalize ((was[k]'hl3).toNat : Int) = x at hc2 hc3
        clear e
        have hbn : (x != x) = false := by simp
        go_wp2_with fail
        go_quiet (fail)
        go_wp2
        go_roundg s
        case measure => omega
        case rel => exact ⟨drewN_below bL _, k + 1, by omega, by go_num⟩
    · obtain rfl : k = N := by omega
      replace bb := bb.trans (bL.mono bb.size)
      replace RM := RM.below bL
      replace RO := RO.below bL
      go_wp2_with fail
      have hC := iAlike_any M M AO n cO AM n cM wr RO RM
      refine hC.mono ?_
      clear hC
      rintro e w8 ⟨rfl, b8⟩
      replace RM := RM.below b8
      replace RO := RO.below b8
      replace bb := bb.trans (b8.mono bb.size)
      rw [alike_self]
      go_wp2_with fail
      have hC := iCheck_any M AM n cM w8 RM
      refine hC.mono ?_
      clear hC
      rintro e w9 ⟨rfl, b9⟩
      replace RM := RM.below b9
      replace RO := RO.below b9
      replace bb := bb.trans (b9.mono bb.size)
      rw [cM']
      go_wp2
      go_ret
      exact ⟨rfl, bb⟩
theorem ImageFills_walk (a0 : Option Addr) (len0 cap0 : Nat) (a1 : Int) (a2 : Int) (a3 : Int) (a4 : Int) (w : World) (w0 : IsSts [.num .i64, .num .i64, .num .u8, .num .u8, .num .u8, .num .u8, .num .u8, .num .u8, .num .u8, .num .u8, .num .u8, .num .u8, .num .u8, .num .u8, .num .u8, .num .u8, .num .u8, .num .u8, .num .u8, .num .u8, .num .u8, .num .u8, .num .u8, .num .u8, .num .u8, .num .u8, .num .u8, .num .u8, .num .u8, .num .u8, .num .u8, .num .u8, .num .u8, .num .u8] w a0 len0 cap0) (w1 : (Lit.int .i64 a1).wf = true) (w2 : (Lit.int .i64 a2).wf = true) (w3 : (Lit.int .i64 a3).wf = true) (w4 : (Lit.int .i64 a4).wf = true) :
    Calls Try.prog 11 #[.slice a0 len0 cap0, .int .i64 a1, .int .i64 a2, .int .i64 a3, .int .i64 a4] w (AwakePost w) := by
  obtain ⟨xs, h⟩ := cells_of_sts w0
  exact imFills_core xs a0 len0 cap0 a1 a2 a3 a4 w h (ext_wf w1)
end Go.Proofs.Ytepaojegcaapfaa
