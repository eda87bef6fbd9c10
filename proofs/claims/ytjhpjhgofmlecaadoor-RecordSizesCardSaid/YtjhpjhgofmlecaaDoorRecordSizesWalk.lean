/-
  RecordSizes: the walk (written by gen_recsizes.py).
-/
import Derived.Test.YtjhpjhgofmlecaaDoorRecAwake
namespace Go.Proofs.YtjhpjhgofmlecaaDoor
open Go.RowKit Go.Wag
set_option linter.unusedVariables false
set_option linter.unusedSimpArgs false

set_option maxRecDepth 100000 in
set_option maxHeartbeats 4000000 in
theorem RecordSizes_walk (a0_0 : Int) (a0_1 : Int) (a0_2 : Option Addr) (len0_2 cap0_2 : Nat) (z0_2 : List Int) (a1 : Int) (w : World) (hT : Tab w) (w0_0 : (Lit.int .i64 a0_0).wf = true) (w0_1 : (Lit.int .i64 a0_1).wf = true) (w0_2 : IsRow .u8 w a0_2 len0_2 cap0_2 z0_2) (w1 : (Lit.int .u16 a1).wf = true) :
    Calls Tryd.prog 8 #[.agg #[.int .i64 a0_0, .int .i64 a0_1, .slice a0_2 len0_2 cap0_2], .int .u16 a1] w (AwakePost w) := by
  obtain ⟨l0, s0⟩ := w0_2.bytes
  have hu := bounds_u16 w1
  clear w0_0 w0_1 w0_2 w1
  have HL : Hid (l0.length = len0_2) := s0.len8
  by_cases g1 : (4096 : Int) < (len0_2 : Int)
  · have bb := Below.refl w.heap.size w
    go_enter Tryd.func8, Tryd.ntmps8
    replace hT := hT.alloc (.cells #[.int .i64 a0_0, .int .i64 a0_1, .slice a0_2 len0_2 cap0_2] 25)
    replace s0 := s0.alloc (.cells #[.int .i64 a0_0, .int .i64 a0_1, .slice a0_2 len0_2 cap0_2] 25)
    replace bb := bb.alloc bb.size (.cells #[.int .i64 a0_0, .int .i64 a0_1, .slice a0_2 len0_2 cap0_2] 25)
    have Bv := Blk.new w #[.int .i64 a0_0, .int .i64 a0_1, .slice a0_2 len0_2 cap0_2] 25
    go_wp2_with fail
    generalize (w.alloc (.cells #[.int .i64 a0_0, .int .i64 a0_1, .slice a0_2 len0_2 cap0_2] 25)) = W1 at *
    have hC := awake5_any W1 hT
    refine hC.mono ?_
    clear hC
    rintro e w1 ⟨rfl, ba⟩
    replace hT := hT.below ba
    replace s0 := s0.below ba
    replace Bv := Bv.under ba
    replace bb := bb.trans (ba.mono bb.size)
    clear ba
    obtain ⟨Bvq0, Bvq1, Bvq2, Bvr0, Bvr1, Bvr2⟩ := Bv.three
    have Bvl := Bv.lt
    go_wp2
    clear Bvq0 Bvq1 Bvq2 Bvr0 Bvr1 Bvr2
    go_ret
    exact ⟨rfl, bb⟩
  cases hk : rchk a0_0 a0_1 len0_2
  · have bb := Below.refl w.heap.size w
    go_enter Tryd.func8, Tryd.ntmps8
    replace hT := hT.alloc (.cells #[.int .i64 a0_0, .int .i64 a0_1, .slice a0_2 len0_2 cap0_2] 25)
    replace s0 := s0.alloc (.cells #[.int .i64 a0_0, .int .i64 a0_1, .slice a0_2 len0_2 cap0_2] 25)
    replace bb := bb.alloc bb.size (.cells #[.int .i64 a0_0, .int .i64 a0_1, .slice a0_2 len0_2 cap0_2] 25)
    have Bv := Blk.new w #[.int .i64 a0_0, .int .i64 a0_1, .slice a0_2 len0_2 cap0_2] 25
    go_wp2_with fail
    generalize (w.alloc (.cells #[.int .i64 a0_0, .int .i64 a0_1, .slice a0_2 len0_2 cap0_2] 25)) = W1 at *
    have hC := awake5_any W1 hT
    refine hC.mono ?_
    clear hC
    rintro e w1 ⟨rfl, ba⟩
    replace hT := hT.below ba
    replace s0 := s0.below ba
    replace Bv := Bv.under ba
    replace bb := bb.trans (ba.mono bb.size)
    clear ba
    obtain ⟨Bvq0, Bvq1, Bvq2, Bvr0, Bvr1, Bvr2⟩ := Bv.three
    have Bvl := Bv.lt
    go_wp2_with fail
    clear Bvq0 Bvq1 Bvq2 Bvr0 Bvr1 Bvr2
    have hC := BytesErr.no (rWrite_any a0_0 a0_1 a0_2 len0_2 cap0_2 l0 w1 hT s0) (wr_no HL.out hk)
    refine hC.mono ?_
    clear hC
    rintro e w2 ⟨A1, n1, c1, rfl, x1, f1, b1⟩
    replace hT := hT.below b1
    replace s0 := s0.below b1
    replace Bv := Bv.under b1
    replace bb := bb.trans (b1.mono bb.size)
    obtain rfl : n1 = 0 := by simpa using x1.len8.symm
    go_wp2
    go_ret
    exact ⟨rfl, bb⟩
  · have bb := Below.refl w.heap.size w
    go_enter Tryd.func8, Tryd.ntmps8
    replace hT := hT.alloc (.cells #[.int .i64 a0_0, .int .i64 a0_1, .slice a0_2 len0_2 cap0_2] 25)
    replace s0 := s0.alloc (.cells #[.int .i64 a0_0, .int .i64 a0_1, .slice a0_2 len0_2 cap0_2] 25)
    replace bb := bb.alloc bb.size (.cells #[.int .i64 a0_0, .int .i64 a0_1, .slice a0_2 len0_2 cap0_2] 25)
    have Bv := Blk.new w #[.int .i64 a0_0, .int .i64 a0_1, .slice a0_2 len0_2 cap0_2] 25
    go_wp2_with fail
    generalize (w.alloc (.cells #[.int .i64 a0_0, .int .i64 a0_1, .slice a0_2 len0_2 cap0_2] 25)) = W1 at *
    have hC := awake5_any W1 hT
    refine hC.mono ?_
    clear hC
    rintro e w1 ⟨rfl, ba⟩
    replace hT := hT.below ba
    replace s0 := s0.below ba
    replace Bv := Bv.under ba
    replace bb := bb.trans (ba.mono bb.size)
    clear ba
    obtain ⟨L, hLr, hLl, hLc⟩ : ∃ L, Hid (wrF ⟨a0_0, a0_1, l0⟩ = some L) ∧ Hid (L.length = len0_2 + 20 ∧ rdF L = some (⟨a0_0, a0_1, l0⟩, len0_2 + 20)) ∧ Hid (∀ m, m < len0_2 + 20 → rdF (L.take m) = none) := by
      have hok : Rp.ok ⟨a0_0, a0_1, l0⟩ = true := by unfold Rp.ok; rw [HL.out]; exact hk
      have hl : (recB ⟨a0_0, a0_1, l0⟩).length = len0_2 + 20 := by rw [recB_length, HL.out]
      exact ⟨_, wrF_yes hok, ⟨hl, by rw [rd_rec0 hok, hl]⟩, fun m hm => rd_cut hok (by rw [hl]; exact hm)⟩
    obtain ⟨Bvq0, Bvq1, Bvq2, Bvr0, Bvr1, Bvr2⟩ := Bv.three
    have Bvl := Bv.lt
    go_wp2_with fail
    clear Bvq0 Bvq1 Bvq2 Bvr0 Bvr1 Bvr2
    have hC := BytesErr.ok (rWrite_any a0_0 a0_1 a0_2 len0_2 cap0_2 l0 w1 hT s0) hLr.out
    refine hC.mono ?_
    clear hC
    rintro e w2 ⟨A1, n1, c1, rfl, x1, f1, b1⟩
    replace hT := hT.below b1
    replace s0 := s0.below b1
    replace Bv := Bv.under b1
    replace bb := bb.trans (b1.mono bb.size)
    obtain rfl : n1 = len0_2 + 20 := by rw [← x1.len8]; exact hLl.out.1
    clear f1 b1
    have hcx := x1.cap
    have hbx := x1.big
    obtain ⟨m, hm⟩ : ∃ m : Nat, a1 % ((len0_2 : Int) + 20) = (m : Int) := ⟨(a1 % ((len0_2 : Int) + 20)).toNat, by have := Int.emod_nonneg a1 (show (len0_2 : Int) + 20 ≠ 0 by omega); omega⟩
    have hm2 : m < len0_2 + 20 := by have := Int.emod_lt_of_pos a1 (show 0 < (len0_2 : Int) + 20 by omega); omega
    have hmx : max 1 ((len0_2 : Int) + 20) = (len0_2 : Int) + 20 := by omega
    have xm := x1.upto (m := m) (by omega)
    rw [← List.map_take] at xm
    go_wp2_with fail
    have hC := RecErr.no (rRead_any A1 m c1 (L.take m) w2 hT xm (by omega)) (hLc.out m hm2)
    refine hC.mono ?_
    clear hC
    rintro e w3 ⟨rfl, b2⟩
    replace hT := hT.below b2
    replace s0 := s0.below b2
    replace Bv := Bv.under b2
    replace x1 := x1.below b2
    replace xm := xm.below b2
    replace bb := bb.trans (b2.mono bb.size)
    clear b2 xm
    replace hT := hT.alloc (.cells #[.int .i64 0, .int .i64 0, .slice none 0 0] 25)
    replace s0 := s0.alloc (.cells #[.int .i64 0, .int .i64 0, .slice none 0 0] 25)
    replace Bv := Bv.alloc (.cells #[.int .i64 0, .int .i64 0, .slice none 0 0] 25)
    replace x1 := x1.alloc (.cells #[.int .i64 0, .int .i64 0, .slice none 0 0] 25)
    replace bb := bb.alloc bb.size (.cells #[.int .i64 0, .int .i64 0, .slice none 0 0] 25)
    have Bx := Blk.new w3 #[.int .i64 0, .int .i64 0, .slice none 0 0] 25
    go_wp2_with fail
    generalize (w3.alloc (.cells #[.int .i64 0, .int .i64 0, .slice none 0 0] 25)) = W2 at *
    have hC := RecErr.ok (rRead_any A1 (len0_2 + 20) c1 L W2 hT x1 (by omega)) hLl.out.2
    refine hC.mono ?_
    clear hC
    rintro e w4 ⟨A2, m2, c2, hm3, rfl, x2, f2, b3⟩
    replace hT := hT.below b3
    replace s0 := s0.below b3
    replace Bv := Bv.under b3
    replace x1 := x1.below b3
    replace Bx := Bx.under b3
    replace bb := bb.trans (b3.mono bb.size)
    replace hm3 := Lib.hid hm3
    clear b3 f2
    clear Bx
    obtain ⟨Bvq0, Bvq1, Bvq2, Bvr0, Bvr1, Bvr2⟩ := Bv.three
    have Bvl := Bv.lt
    replace hT := hT.alloc (.cells #[.int .i64 a0_0, .int .i64 a0_1, .slice A2 m2 c2] 25)
    replace s0 := s0.alloc (.cells #[.int .i64 a0_0, .int .i64 a0_1, .slice A2 m2 c2] 25)
    replace Bv := Bv.alloc (.cells #[.int .i64 a0_0, .int .i64 a0_1, .slice A2 m2 c2] 25)
    replace x1 := x1.alloc (.cells #[.int .i64 a0_0, .int .i64 a0_1, .slice A2 m2 c2] 25)
    replace bb := bb.alloc bb.size (.cells #[.int .i64 a0_0, .int .i64 a0_1, .slice A2 m2 c2] 25)
    have By := Blk.new w4 #[.int .i64 a0_0, .int .i64 a0_1, .slice A2 m2 c2] 25
    go_wp2_with fail
    clear Bvq0 Bvq1 Bvq2 Bvr0 Bvr1 Bvr2
    generalize (w4.alloc (.cells #[.int .i64 a0_0, .int .i64 a0_1, .slice A2 m2 c2] 25)) = W3 at *
    have e1 : rsizeF (len0_2 : Int) = (len0_2 : Int) + 20 := by unfold rsizeF; rw [if_pos (by omega)]
    have e2 : wrap64 ((len0_2 : Int) + 20) = (len0_2 : Int) + 20 := by unfold wrap64; omega
    have hC := named (rSize_any (len0_2 : Int) W3)
    refine hC.mono ?_
    clear hC
    rintro e w5 ⟨rfl, b4⟩
    replace hT := hT.below b4
    replace s0 := s0.below b4
    replace Bv := Bv.under b4
    replace x1 := x1.below b4
    replace By := By.under b4
    replace bb := bb.trans (b4.mono bb.size)
    clear b4
    obtain ⟨Bvq0, Bvq1, Bvq2, Bvr0, Bvr1, Bvr2⟩ := Bv.three
    have Bvl := Bv.lt
    go_wp2
    clear Bvq0 Bvq1 Bvq2 Bvr0 Bvr1 Bvr2
    go_ret
    exact ⟨rfl, bb⟩
end Go.Proofs.YtjhpjhgofmlecaaDoor
