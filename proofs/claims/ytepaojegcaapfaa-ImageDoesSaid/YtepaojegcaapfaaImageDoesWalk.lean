/-
  ImageDoes: the walk (written by gen_imdoes.py).
-/
import Derived.Test.YtepaojegcaapfaaImC
import Derived.Test.YtepaojegcaapfaaImD
import Derived.Test.YtepaojegcaapfaaArgs
namespace Go.Proofs.Ytepaojegcaapfaa
open Go.RowKit Go.Wag
set_option linter.unusedVariables false
set_option linter.unusedSimpArgs false
set_option maxRecDepth 100000 in
set_option maxHeartbeats 8000000 in
theorem imDoes_core {G : Nat → Prop} (xs : List Cp) (A : Option Addr) (n c : Nat) (lba m kd g : Int) (Ab : Option Addr) (nb cb : Nat) (b : List UInt8) (w : World) (h : Rs cpE G w A n c xs) (hb : Sl w Ab nb cb (b.map v8)) (hlb : lba ≤ 9223372036854775807) :
    Calls Try.prog 7 #[.slice A n c, .int .i64 lba, .int .i64 m, .int .i64 kd, .int .i64 g, .slice Ab nb cb] w (AwakePost w) := by
  have hcap := h.cap
  have hbig := h.big
  have hcb := hb.cap
  have hbb := hb.big
  obtain ⟨P1, p1⟩ : ∃ v, doneL xs (fillMay xs lba m kd g) (fillR xs lba m kd g) = v := ⟨_, rfl⟩
  obtain ⟨E1, e1⟩ : ∃ v, doneE xs (fillMay xs lba m kd g) = v := ⟨_, rfl⟩
  obtain ⟨P2, p2⟩ : ∃ v, doneL xs (wrMay xs lba g b) (wrR xs lba g b) = v := ⟨_, rfl⟩
  obtain ⟨E2, e2⟩ : ∃ v, doneE xs (wrMay xs lba g b) = v := ⟨_, rfl⟩
  obtain ⟨P3, p3⟩ : ∃ v, rdR xs lba m = v := ⟨_, rfl⟩
  obtain ⟨E3, e3⟩ : ∃ v, doneE xs (hasF xs.length lba m) = v := ⟨_, rfl⟩
  replace p1 := Lib.hid p1
  replace e1 := Lib.hid e1
  replace p2 := Lib.hid p2
  replace e2 := Lib.hid e2
  replace p3 := Lib.hid p3
  replace e3 := Lib.hid e3
  have bb := Below.refl w.heap.size w
  go_enter Try.func7, Try.ntmps7
  go_wp2_with fail
  have hC := awake9_any w
  refine hC.mono ?_
  clear hC
  rintro e w1 ⟨rfl, b1⟩
  replace h := h.below b1
  replace hb := hb.below b1
  replace bb := bb.trans (b1.mono bb.size)
  by_cases h1 : (n : Int) > 100
  · go_wp2
    go_ret
    exact ⟨rfl, bb⟩
  by_cases h2 : (nb : Int) > 3000
  · go_wp2
    go_ret
    exact ⟨rfl, bb⟩
  have hC0 := CErr.at (iFill_any xs A n c lba m kd g w1 h (by omega) hlb) p1.out e1.out
  go_wp2_with fail
  have hC := hC0
  refine hC.mono ?_
  clear hC
  rintro e w2 ⟨AP, nP, cP, hP, rfl, RP, b2⟩
  replace h := h.below b2
  replace hb := hb.below b2
  replace bb := bb.trans (b2.mono bb.size)
  clear hC0
  have hC0 := CErr.at (fFill9_any xs A n c lba m kd g w2 h (by omega) hlb) p1.out e1.out
  go_wp2_with fail
  have hC := hC0
  refine hC.mono ?_
  clear hC
  rintro e w3 ⟨AQ, nQ, cQ, hQ, rfl, RQ, b3⟩
  replace h := h.below b3
  replace hb := hb.below b3
  replace RP := RP.below b3
  replace bb := bb.trans (b3.mono bb.size)
  clear hC0
  obtain rfl : nP = nQ := hP.out.symm.trans hQ.out
  clear hP hQ
  have hC0 := CErr.at (iWrite_any xs A n c lba g Ab nb cb b w3 h hb (by omega) (by omega) hlb) p2.out e2.out
  go_wp2_with fail
  have hC := hC0
  refine hC.mono ?_
  clear hC
  rintro e w4 ⟨AR, nR, cR, hR, rfl, RR, b4⟩
  replace h := h.below b4
  replace hb := hb.below b4
  replace RP := RP.below b4
  replace RQ := RQ.below b4
  replace bb := bb.trans (b4.mono bb.size)
  clear hC0
  have hC0 := CErr.at (fWrite9_any xs A n c lba g Ab nb cb b w4 h hb (by omega) (by omega) hlb) p2.out e2.out
  go_wp2_with fail
  have hC := hC0
  refine hC.mono ?_
  clear hC
  rintro e w5 ⟨AS, nS, cS, hS, rfl, RS, b5⟩
  replace h := h.below b5
  replace hb := hb.below b5
  replace RP := RP.below b5
  replace RQ := RQ.below b5
  replace RR := RR.below b5
  replace bb := bb.trans (b5.mono bb.size)
  clear hC0
  obtain rfl : nR = nS := hR.out.symm.trans hS.out
  clear hR hS
  have hC0 := BErr.at (iRead_any xs A n c lba m w5 h (by omega) hlb) p3.out e3.out
  go_wp2_with fail
  have hC := hC0
  refine hC.mono ?_
  clear hC
  rintro e w6 ⟨AX, nX, cX, hX, rfl, RX, _, b6⟩
  replace h := h.below b6
  replace hb := hb.below b6
  replace RP := RP.below b6
  replace RQ := RQ.below b6
  replace RR := RR.below b6
  replace RS := RS.below b6
  replace bb := bb.trans (b6.mono bb.size)
  clear hC0
  have hC0 := BErr.at (fRead9_any xs A n c lba m w6 h (by omega) hlb) p3.out e3.out
  go_wp2_with fail
  have hC := hC0
  refine hC.mono ?_
  clear hC
  rintro e w7 ⟨AY, nY, cY, hY, rfl, RY, _, b7⟩
  replace h := h.below b7
  replace hb := hb.below b7
  replace RP := RP.below b7
  replace RQ := RQ.below b7
  replace RR := RR.below b7
  replace RS := RS.below b7
  replace RX := RX.below b7
  replace bb := bb.trans (b7.mono bb.size)
  clear hC0
  obtain rfl : nX = nY := hX.out.symm.trans hY.out
  clear hX hY
  go_wp2_with fail
  have hC := cSame_any P1 AP nP cP AQ cQ w7 RP RQ
  refine hC.mono ?_
  clear hC
  rintro e w8 ⟨rfl, b8⟩
  replace h := h.below b8
  replace hb := hb.below b8
  replace RP := RP.below b8
  replace RQ := RQ.below b8
  replace RR := RR.below b8
  replace RS := RS.below b8
  replace RX := RX.below b8
  replace RY := RY.below b8
  replace bb := bb.trans (b8.mono bb.size)
  go_wp2_with fail
  have hC := cSame_any P2 AR nR cR AS cS w8 RR RS
  refine hC.mono ?_
  clear hC
  rintro e w9 ⟨rfl, b9⟩
  replace h := h.below b9
  replace hb := hb.below b9
  replace RP := RP.below b9
  replace RQ := RQ.below b9
  replace RR := RR.below b9
  replace RS := RS.below b9
  replace RX := RX.below b9
  replace RY := RY.below b9
  replace bb := bb.trans (b9.mono bb.size)
  have q1 := str_of RX
  have q2 := str_of RY
  have g1 : (E1 == E1) = true := by simp
  have g2 : (E2 == E2) = true := by simp
  have g3 : (E3 == E3) = true := by simp
  go_wp2
  go_ret
  exact ⟨rfl, bb⟩
theorem ImageDoes_walk (a0 : Option Addr) (len0 cap0 : Nat) (a1 : Int) (a2 : Int) (a3 : Int) (a4 : Int) (a5 : Option Addr) (len5 cap5 : Nat) (z5 : List Int) (w : World) (w0 : IsSts [.num .i64, .num .i64, .num .u8, .num .u8, .num .u8, .num .u8, .num .u8, .num .u8, .num .u8, .num .u8, .num .u8, .num .u8, .num .u8, .num .u8, .num .u8, .num .u8, .num .u8, .num .u8, .num .u8, .num .u8, .num .u8, .num .u8, .num .u8, .num .u8, .num .u8, .num .u8, .num .u8, .num .u8, .num .u8, .num .u8, .num .u8, .num .u8, .num .u8, .num .u8] w a0 len0 cap0) (w1 : (Lit.int .i64 a1).wf = true) (w2 : (Lit.int .i64 a2).wf = true) (w3 : (Lit.int .i64 a3).wf = true) (w4 : (Lit.int .i64 a4).wf = true) (w5 : IsRow .u8 w a5 len5 cap5 z5) :
    Calls Try.prog 7 #[.slice a0 len0 cap0, .int .i64 a1, .int .i64 a2, .int .i64 a3, .int .i64 a4, .slice a5 len5 cap5] w (AwakePost w) := by
  obtain ⟨xs, h⟩ := cells_of_sts w0
  obtain ⟨l1, h1⟩ := w5.bytes
  exact imDoes_core xs a0 len0 cap0 a1 a2 a3 a4 a5 len5 cap5 l1 w h h1 (ext_wf w1)
end Go.Proofs.Ytepaojegcaapfaa
