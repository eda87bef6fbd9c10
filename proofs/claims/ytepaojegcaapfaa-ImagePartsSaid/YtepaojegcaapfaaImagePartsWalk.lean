/-
  ImageParts: the walk (written by gen_imparts.py).
-/
import Derived.Test.YtepaojegcaapfaaImC
import Derived.Test.YtepaojegcaapfaaArgs
namespace Go.Wag
open Go.RowKit
set_option linter.unusedVariables false
/-- 's[:m]' as one value. -/
theorem run_cutM {P : Program} (t : TypeId) (e : TypeId) (ht : P.underlying t = some (.slice (P.elem t))) (he : P.elem t = e) (hsz : (P.info? e).map (·.size) = some 1) (A : Option Addr) (n c : Nat) (kh : IntKind) (M : Int) (m : Nat) (hM : M = m) (hm : m ≤ c) (w : World) :
    (Instr.slice t (.slice A n c) none (some (.int kh M)) none).run P w = .ok (.slice A m c) w := by
  subst hM he
  obtain ⟨i, hi, hs⟩ := Option.map_eq_some_iff.1 hsz
  rw [run_slice_h w t A n c ht kh m (by omega) (by omega)]
  cases A with
  | none => simp [sizeOf, typeInfo, hi, hs, sliced]
  | some ad =>
    have : ad.add 0 = ad := by unfold Addr.add; split <;> simp_all
    simp [sizeOf, typeInfo, hi, hs, sliced, this]
end Go.Wag
namespace Go.Proofs.Ytepaojegcaapfaa
open Go.RowKit Go.Wag
set_option linter.unusedVariables false
set_option linter.unusedSimpArgs false
set_option maxRecDepth 100000 in
set_option maxHeartbeats 8000000 in
theorem imParts_core {F : Nat → Prop} (xs : List Cp) (A : Option Addr) (n c : Nat) (lba g : Int) (Ab : Option Addr) (nb cb : Nat) (b : List UInt8) (cu ki : Int) (w : World) (h : Rs cpE F w A n c xs) (hb : Sl w Ab nb cb (b.map v8)) (hlb : lba ≤ 9223372036854775807) (hcu : 0 ≤ cu ∧ cu ≤ 255) (hki : 0 ≤ ki ∧ ki ≤ 255) :
    Calls Try.prog 10 #[.slice A n c, .int .i64 lba, .int .i64 g, .slice Ab nb cb, .int .u8 cu, .int .u8 ki] w (AwakePost w) := by
  have HN : Hid (xs.length = n) := h.len
  have HB : Hid (b.length = nb) := hb.len8
  have hnb := hb.cap
  have hcbb := hb.big
  have hnc := h.cap
  have hncb := h.big
  obtain ⟨q, hq⟩ : ∃ q, nb / 32 = q := ⟨_, rfl⟩
  have t1 : Int.tdiv (nb : Int) 32 = (q : Int) := by rw [Int.tdiv_eq_ediv_of_nonneg (by omega)]; omega
  have t2 : (nb : Int) / 32 = (q : Int) := by omega
  have hqb : q ≤ 9223372036854775807 := by omega
  have hcu1 := hcu.1
  have hcu2 := hcu.2
  have hki1 := hki.1
  have hki2 := hki.2
  clear hcu hki
  have hq32 : Hid (32 * q ≤ nb) := Lib.hid (by omega)
  replace hq := Lib.hid hq
  have bb := Below.refl w.heap.size w
  go_enter Try.func10, Try.ntmps10
  go_wp2_with fail
  have hC := awake9_any w
  refine hC.mono ?_
  clear hC
  rintro e w1 ⟨rfl, b1⟩
  replace h := h.below b1
  replace hb := hb.below b1
  replace bb := bb.trans (b1.mono bb.size)
  by_cases h1 : (n : Int) > 100
  · go_wp2
    go_ret
    exact ⟨rfl, bb⟩
  by_cases h2 : (nb : Int) > 3000
  · go_wp2
    go_ret
    exact ⟨rfl, bb⟩
  by_cases h3 : (q : Int) < 2
  · go_wp2
    go_ret
    exact ⟨rfl, bb⟩
  have hC0 := iWrite_any xs A n c lba g Ab nb cb b w1 h hb (by omega) (by omega) hlb
  cases hm : ichk xs
  · rw [doneL_chk hm, doneE_chk hm] at hC0
    go_wp2_with fail
    have hC := hC0
    refine hC.mono ?_
    clear hC
    rintro e w2 ⟨A2, n2, c2, h2', rfl, R2, b2⟩
    replace h := h.below b2
    replace hb := hb.below b2
    replace bb := bb.trans (b2.mono bb.size)
    go_wp2
    go_ret
    exact ⟨rfl, bb⟩
  cases hw : wrMay xs lba g b
  · rw [doneL_may hm hw, doneE_may hm hw] at hC0
    go_wp2_with fail
    have hC := hC0
    refine hC.mono ?_
    clear hC
    rintro e w2 ⟨A2, n2, c2, h2', rfl, R2, b2⟩
    replace h := h.below b2
    replace hb := hb.below b2
    replace bb := bb.trans (b2.mono bb.size)
    go_wp2
    go_ret
    exact ⟨rfl, bb⟩
  clear hC0
  obtain ⟨a, m', rfl, hm', _, hfit⟩ := has_nat (wr_open hw).2.1
  have hq3 : b.length / 32 = q := by rw [HB.out]; exact hq.out
  have hfit' : a + q ≤ n := by rw [← HN.out]; omega
  clear hm' hfit
  obtain ⟨r, k, u3, u4, hk⟩ := im_nums (q := q) (cu := cu) (by omega) (by omega) hcu1
  obtain ⟨kd, hkd⟩ : ∃ v, ki % 2 = v := ⟨_, rfl⟩
  have hkd2 : kd = 0 ∨ kd = 1 := by omega
  have hkd3 : Hid (kd = 0 ∨ kd = 1) := hkd2
  obtain ⟨X, Y, P, lX, lY, lP, ⟨f1, g1⟩, ⟨f2, g2⟩, ⟨f3, g3⟩, ⟨f4, g4⟩, ⟨f5, g5⟩⟩ := im_parts (kd := kd) hm hw hq3 hk hkd2
  have hk1 := hk.1
  have hk2 := hk.2
  clear hk hkd2 hm hw hq3
  rw [HN.out] at lX lY lP
  replace f1 := Lib.hid f1
  replace f2 := Lib.hid f2
  replace f3 := Lib.hid f3
  replace f4 := Lib.hid f4
  replace f5 := Lib.hid f5
  replace g1 := Lib.hid g1
  replace g2 := Lib.hid g2
  replace g3 := Lib.hid g3
  replace g4 := Lib.hid g4
  replace g5 := Lib.hid g5
  have hC0 := CErr.at (iWrite_any xs A n c a g Ab nb cb b w1 h hb (by omega) (by omega) (by omega)) f1.out g1.out
  go_wp2_with fail
  have hC := hC0
  refine hC.mono ?_
  clear hC
  rintro e w2 ⟨AX, nX, cX, hX, rfl, RX, b2⟩
  replace h := h.below b2
  replace hb := hb.below b2
  replace bb := bb.trans (b2.mono bb.size)
  clear hC0
  obtain rfl : n = nX := lX.symm.trans hX.out
  clear hX
  have hc1 := fun W => run_cutM (P := Try.prog) 23 5 un22 el22 sz5 Ab nb cb .i64 (32 * (k : Int)) (32 * k) (by omega) (by have := hq32.out; omega) W
  have hc2 := fun W => run_cut (P := Try.prog) 23 5 un22 el22 sz5 Ab nb cb .i64 (32 * (k : Int)) (32 * k) (by omega) (by have := hq32.out; omega) W
  have sb1 : Sl w2 Ab (32 * k) cb ((b.take (32 * k)).map v8) := by have := hb.upto (m := 32 * k) (by have := hq32.out; omega); rwa [← List.map_take] at this
  have sb2 : Sl w2 (cutA Ab cb (32 * k)) (nb - 32 * k) (cb - 32 * k) ((b.drop (32 * k)).map v8) := by have := hb.from_ (k := 32 * k) (by have := hq32.out; omega); rwa [← List.map_drop] at this
  obtain ⟨k32, hk32⟩ : ∃ v, 32 * k = v := ⟨_, rfl⟩
  rw [hk32] at hc1 hc2 sb1 sb2 f2 g2 f3 g3
  have hk32b : k32 ≤ nb := by have := hq32.out; omega
  have hk32i : Hid (32 * (k : Int) = (k32 : Int)) := Lib.hid (by omega)
  replace hk32 := Lib.hid hk32
  have hC0 := CErr.at (iWrite_any xs A n c a g Ab k32 cb (b.take k32) w2 h sb1 (by omega) (by omega) (by omega)) f2.out g2.out
  go_wp2_with fail
  have hC := hC0
  refine hC.mono ?_
  clear hC
  rintro e w3 ⟨AY, nY, cY, hY, rfl, RY, b3⟩
  replace h := h.below b3
  replace hb := hb.below b3
  replace RX := RX.below b3
  replace sb1 := sb1.below b3
  replace sb2 := sb2.below b3
  replace bb := bb.trans (b3.mono bb.size)
  clear hC0
  obtain rfl : n = nY := lY.symm.trans hY.out
  clear hY
  have hC0 := CErr.at (iWrite_any Y AY n cY ((a : Int) + (k : Int)) g (cutA Ab cb k32) (nb - k32) (cb - k32) (b.drop k32) w3 RY sb2 (by omega) (by omega) (by omega)) f3.out g3.out
  go_wp2_with fail
  have hC := hC0
  refine hC.mono ?_
  clear hC
  rintro e w4 ⟨AZ, nZ, cZ, hZ, rfl, RZ, b4⟩
  replace h := h.below b4
  replace hb := hb.below b4
  replace RX := RX.below b4
  replace sb1 := sb1.below b4
  replace sb2 := sb2.below b4
  replace RY := RY.below b4
  replace bb := bb.trans (b4.mono bb.size)
  clear hC0
  obtain rfl : n = nZ := lX.symm.trans hZ.out
  clear hZ hc1 hc2
  have hC0 := CErr.at (iFill_any X AX n cX a (q : Int) kd g w4 RX (by omega) (by omega)) f4.out g4.out
  go_wp2_with fail
  have hC := hC0
  refine hC.mono ?_
  clear hC
  rintro e w5 ⟨AP, nP, cP, hP, rfl, RP, b5⟩
  replace h := h.below b5
  replace hb := hb.below b5
  replace RX := RX.below b5
  replace sb1 := sb1.below b5
  replace sb2 := sb2.below b5
  replace RY := RY.below b5
  replace RZ := RZ.below b5
  replace bb := bb.trans (b5.mono bb.size)
  clear hC0
  obtain rfl : n = nP := lP.symm.trans hP.out
  clear hP
  have hC0 := CErr.at (iFill_any xs A n c a (q : Int) kd g w5 h (by omega) (by omega)) f5.out g5.out
  go_wp2_with fail
  have hC := hC0
  refine hC.mono ?_
  clear hC
  rintro e w6 ⟨AQ, nQ, cQ, hQ, rfl, RQ, b6⟩
  replace h := h.below b6
  replace hb := hb.below b6
  replace RX := RX.below b6
  replace sb1 := sb1.below b6
  replace sb2 := sb2.below b6
  replace RY := RY.below b6
  replace RZ := RZ.below b6
  replace RP := RP.below b6
  replace bb := bb.trans (b6.mono bb.size)
  clear hC0
  obtain rfl : n = nQ := lP.symm.trans hQ.out
  clear hQ
  go_wp2_with fail
  have hC := cSame_any X AX n cX AZ cZ w6 RX RZ
  refine hC.mono ?_
  clear hC
  rintro e w7 ⟨rfl, b7⟩
  replace h := h.below b7
  replace hb := hb.below b7
  replace RX := RX.below b7
  replace sb1 := sb1.below b7
  replace sb2 := sb2.below b7
  replace RY := RY.below b7
  replace RZ := RZ.below b7
  replace RP := RP.below b7
  replace RQ := RQ.below b7
  replace bb := bb.trans (b7.mono bb.size)
  go_wp2_with fail
  have hC := cSame_any P AP n cP AQ cQ w7 RP RQ
  refine hC.mono ?_
  clear hC
  rintro e w8 ⟨rfl, b8⟩
  replace h := h.below b8
  replace hb := hb.below b8
  replace RX := RX.below b8
  replace sb1 := sb1.below b8
  replace sb2 := sb2.below b8
  replace RY := RY.below b8
  replace RZ := RZ.below b8
  replace RP := RP.below b8
  replace RQ := RQ.below b8
  replace bb := bb.trans (b8.mono bb.size)
  go_wp2_with fail
  have hC := iAlike_any X X AX n cX AZ n cZ w8 RX RZ
  refine hC.mono ?_
  clear hC
  rintro e w9 ⟨rfl, b9⟩
  replace h := h.below b9
  replace hb := hb.below b9
  replace RX := RX.below b9
  replace sb1 := sb1.below b9
  replace sb2 := sb2.below b9
  replace RY := RY.below b9
  replace RZ := RZ.below b9
  replace RP := RP.below b9
  replace RQ := RQ.below b9
  replace bb := bb.trans (b9.mono bb.size)
  rw [alike_self]
  go_wp2
  go_ret
  exact ⟨rfl, bb⟩
theorem ImageParts_walk (a0 : Option Addr) (len0 cap0 : Nat) (a1 : Int) (a2 : Int) (a3 : Option Addr) (len3 cap3 : Nat) (z3 : List Int) (a4 : Int) (a5 : Int) (w : World) (w0 : IsSts [.num .i64, .num .i64, .num .u8, .num .u8, .num .u8, .num .u8, .num .u8, .num .u8, .num .u8, .num .u8, .num .u8, .num .u8, .num .u8, .num .u8, .num .u8, .num .u8, .num .u8, .num .u8, .num .u8, .num .u8, .num .u8, .num .u8, .num .u8, .num .u8, .num .u8, .num .u8, .num .u8, .num .u8, .num .u8, .num .u8, .num .u8, .num .u8, .num .u8, .num .u8] w a0 len0 cap0) (w1 : (Lit.int .i64 a1).wf = true) (w2 : (Lit.int .i64 a2).wf = true) (w3 : IsRow .u8 w a3 len3 cap3 z3) (w4 : (Lit.int .u8 a4).wf = true) (w5 : (Lit.int .u8 a5).wf = true) :
    Calls Try.prog 10 #[.slice a0 len0 cap0, .int .i64 a1, .int .i64 a2, .slice a3 len3 cap3, .int .u8 a4, .int .u8 a5] w (AwakePost w) := by
  obtain ⟨xs, h⟩ := cells_of_sts w0
  obtain ⟨l1, h1⟩ := w3.bytes
  exact imParts_core xs a0 len0 cap0 a1 a2 a3 len3 cap3 l1 a4 a5 w h h1 (ext_wf w1) (wf_byte w4) (wf_byte w5)
end Go.Proofs.Ytepaojegcaapfaa
