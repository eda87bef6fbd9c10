/-
  RecordApart: the walk (written by gen_recsizes.py).
-/
import Derived.Test.YtjhpjhgofmlecaaDoorRecAwake
namespace Go.Proofs.YtjhpjhgofmlecaaDoor
open Go.RowKit Go.Wag
set_option linter.unusedVariables false
set_option linter.unusedSimpArgs false

theorem bytes_beq (a b : List UInt8) : (ByteArray.mk a.toArray == ByteArray.mk b.toArray) = (a == b) := by
  show (a.toArray == b.toArray) = _
  simp
theorem apart_same {a b : Rp} (ha : a.ok = true) (hb : b.ok = true) {n : Nat} (hn : n = min (recB a).length (recB b).length) : ((recB a).take n == (recB b).take n) = sameR a.k a.s a.l b.k b.s b.l := by
  rw [Bool.eq_iff_iff]
  simp only [beq_iff_eq, sameR, decide_eq_true_eq]
  constructor
  · intro h
    obtain rfl := rec_apart ha hb hn h
    exact ⟨rfl, rfl, rfl⟩
  · rintro ⟨h1, h2, h3⟩
    rw [Rp.ext_of h1 h2 h3]

set_option maxRecDepth 100000 in
set_option maxHeartbeats 4000000 in
theorem RecordApart_walk (a0_0 : Int) (a0_1 : Int) (a0_2 : Option Addr) (len0_2 cap0_2 : Nat) (z0_2 : List Int) (a1_0 : Int) (a1_1 : Int) (a1_2 : Option Addr) (len1_2 cap1_2 : Nat) (z1_2 : List Int) (w : World) (hT : Tab w) (w0_0 : (Lit.int .i64 a0_0).wf = true) (w0_1 : (Lit.int .i64 a0_1).wf = true) (w0_2 : IsRow .u8 w a0_2 len0_2 cap0_2 z0_2) (w1_0 : (Lit.int .i64 a1_0).wf = true) (w1_1 : (Lit.int .i64 a1_1).wf = true) (w1_2 : IsRow .u8 w a1_2 len1_2 cap1_2 z1_2) :
    Calls Tryd.prog 7 #[.agg #[.int .i64 a0_0, .int .i64 a0_1, .slice a0_2 len0_2 cap0_2], .agg #[.int .i64 a1_0, .int .i64 a1_1, .slice a1_2 len1_2 cap1_2]] w (AwakePost w) := by
  obtain ⟨l0, s0⟩ := w0_2.bytes
  obtain ⟨l1, s1⟩ := w1_2.bytes
  clear w0_0 w0_1 w0_2 w1_0 w1_1 w1_2
  have H0 : Hid (l0.length = len0_2) := s0.len8
  have H1 : Hid (l1.length = len1_2) := s1.len8
  cases k0 : rchk a0_0 a0_1 len0_2
  · cases k1 : rchk a1_0 a1_1 len1_2
    · have bb := Below.refl w.heap.size w
      go_enter Tryd.func7, Tryd.ntmps7
      replace hT := hT.alloc (.cells #[.int .i64 a0_0, .int .i64 a0_1, .slice a0_2 len0_2 cap0_2] 25)
      replace s0 := s0.alloc (.cells #[.int .i64 a0_0, .int .i64 a0_1, .slice a0_2 len0_2 cap0_2] 25)
      replace s1 := s1.alloc (.cells #[.int .i64 a0_0, .int .i64 a0_1, .slice a0_2 len0_2 cap0_2] 25)
      replace bb := bb.alloc bb.size (.cells #[.int .i64 a0_0, .int .i64 a0_1, .slice a0_2 len0_2 cap0_2] 25)
      have Bv := Blk.new w #[.int .i64 a0_0, .int .i64 a0_1, .slice a0_2 len0_2 cap0_2] 25
      replace hT := hT.alloc (.cells #[.int .i64 a1_0, .int .i64 a1_1, .slice a1_2 len1_2 cap1_2] 25)
      replace s0 := s0.alloc (.cells #[.int .i64 a1_0, .int .i64 a1_1, .slice a1_2 len1_2 cap1_2] 25)
      replace s1 := s1.alloc (.cells #[.int .i64 a1_0, .int .i64 a1_1, .slice a1_2 len1_2 cap1_2] 25)
      replace Bv := Bv.alloc (.cells #[.int .i64 a1_0, .int .i64 a1_1, .slice a1_2 len1_2 cap1_2] 25)
      replace bb := bb.alloc bb.size (.cells #[.int .i64 a1_0, .int .i64 a1_1, .slice a1_2 len1_2 cap1_2] 25)
      have Bw := Blk.new (w.alloc (.cells #[.int .i64 a0_0, .int .i64 a0_1, .slice a0_2 len0_2 cap0_2] 25)) #[.int .i64 a1_0, .int .i64 a1_1, .slice a1_2 len1_2 cap1_2] 25
      simp only [World.size_alloc] at Bw
      go_wp2_with fail
      generalize ((w.alloc (.cells #[.int .i64 a0_0, .int .i64 a0_1, .slice a0_2 len0_2 cap0_2] 25)).alloc (.cells #[.int .i64 a1_0, .int .i64 a1_1, .slice a1_2 len1_2 cap1_2] 25)) = W1 at *
      have hC := awake5_any W1 hT
      refine hC.mono ?_
      clear hC
      rintro e w1 ⟨rfl, ba⟩
      replace hT := hT.below ba
      replace s0 := s0.below ba
      replace s1 := s1.below ba
      replace Bv := Bv.under ba
      replace Bw := Bw.under ba
      replace bb := bb.trans (ba.mono bb.size)
      clear ba
      obtain ⟨Bvq0, Bvq1, Bvq2, Bvr0, Bvr1, Bvr2⟩ := Bv.three
      have Bvl := Bv.lt
      obtain ⟨Bwq0, Bwq1, Bwq2, Bwr0, Bwr1, Bwr2⟩ := Bw.three
      have Bwl := Bw.lt
      go_wp2_with fail
      clear Bvq0 Bvq1 Bvq2 Bvr0 Bvr1 Bvr2
      clear Bwq0 Bwq1 Bwq2 Bwr0 Bwr1 Bwr2
      have hC := BytesErr.no (rWrite_any a0_0 a0_1 a0_2 len0_2 cap0_2 l0 w1 hT s0) (wr_no H0.out k0)
      refine hC.mono ?_
      clear hC
      rintro e w2 ⟨A1, n1, c1, rfl, x1, f1, b1⟩
      replace hT := hT.below b1
      replace s0 := s0.below b1
      replace s1 := s1.below b1
      replace Bv := Bv.under b1
      replace Bw := Bw.under b1
      replace bb := bb.trans (b1.mono bb.size)
      clear f1 b1
      obtain ⟨Bvq0, Bvq1, Bvq2, Bvr0, Bvr1, Bvr2⟩ := Bv.three
      have Bvl := Bv.lt
      obtain ⟨Bwq0, Bwq1, Bwq2, Bwr0, Bwr1, Bwr2⟩ := Bw.three
      have Bwl := Bw.lt
      go_wp2_with fail
      clear Bvq0 Bvq1 Bvq2 Bvr0 Bvr1 Bvr2
      clear Bwq0 Bwq1 Bwq2 Bwr0 Bwr1 Bwr2
      have hC := BytesErr.no (rWrite_any a1_0 a1_1 a1_2 len1_2 cap1_2 l1 w2 hT s1) (wr_no H1.out k1)
      refine hC.mono ?_
      clear hC
      rintro e w3 ⟨A2, n2, c2, rfl, x2, f2, b2⟩
      replace hT := hT.below b2
      replace s0 := s0.below b2
      replace s1 := s1.below b2
      replace Bv := Bv.under b2
      replace Bw := Bw.under b2
      replace x1 := x1.below b2
      replace bb := bb.trans (b2.mono bb.size)
      clear f2 b2
      obtain ⟨Bvq0, Bvq1, Bvq2, Bvr0, Bvr1, Bvr2⟩ := Bv.three
      have Bvl := Bv.lt
      obtain ⟨Bwq0, Bwq1, Bwq2, Bwr0, Bwr1, Bwr2⟩ := Bw.three
      have Bwl := Bw.lt
      go_wp2
      clear Bvq0 Bvq1 Bvq2 Bvr0 Bvr1 Bvr2
      clear Bwq0 Bwq1 Bwq2 Bwr0 Bwr1 Bwr2
      go_ret
      exact ⟨rfl, bb⟩
    · have bb := Below.refl w.heap.size w
      go_enter Tryd.func7, Tryd.ntmps7
      replace hT := hT.alloc (.cells #[.int .i64 a0_0, .int .i64 a0_1, .slice a0_2 len0_2 cap0_2] 25)
      replace s0 := s0.alloc (.cells #[.int .i64 a0_0, .int .i64 a0_1, .slice a0_2 len0_2 cap0_2] 25)
      replace s1 := s1.alloc (.cells #[.int .i64 a0_0, .int .i64 a0_1, .slice a0_2 len0_2 cap0_2] 25)
      replace bb := bb.alloc bb.size (.cells #[.int .i64 a0_0, .int .i64 a0_1, .slice a0_2 len0_2 cap0_2] 25)
      have Bv := Blk.new w #[.int .i64 a0_0, .int .i64 a0_1, .slice a0_2 len0_2 cap0_2] 25
      replace hT := hT.alloc (.cells #[.int .i64 a1_0, .int .i64 a1_1, .slice a1_2 len1_2 cap1_2] 25)
      replace s0 := s0.alloc (.cells #[.int .i64 a1_0, .int .i64 a1_1, .slice a1_2 len1_2 cap1_2] 25)
      replace s1 := s1.alloc (.cells #[.int .i64 a1_0, .int .i64 a1_1, .slice a1_2 len1_2 cap1_2] 25)
      replace Bv := Bv.alloc (.cells #[.int .i64 a1_0, .int .i64 a1_1, .slice a1_2 len1_2 cap1_2] 25)
      replace bb := bb.alloc bb.size (.cells #[.int .i64 a1_0, .int .i64 a1_1, .slice a1_2 len1_2 cap1_2] 25)
      have Bw := Blk.new (w.alloc (.cells #[.int .i64 a0_0, .int .i64 a0_1, .slice a0_2 len0_2 cap0_2] 25)) #[.int .i64 a1_0, .int .i64 a1_1, .slice a1_2 len1_2 cap1_2] 25
      simp only [World.size_alloc] at Bw
      go_wp2_with fail
      generalize ((w.alloc (.cells #[.int .i64 a0_0, .int .i64 a0_1, .slice a0_2 len0_2 cap0_2] 25)).alloc (.cells #[.int .i64 a1_0, .int .i64 a1_1, .slice a1_2 len1_2 cap1_2] 25)) = W1 at *
      have hC := awake5_any W1 hT
      refine hC.mono ?_
      clear hC
      rintro e w1 ⟨rfl, ba⟩
      replace hT := hT.below ba
      replace s0 := s0.below ba
      replace s1 := s1.below ba
      replace Bv := Bv.under ba
      replace Bw := Bw.under ba
      replace bb := bb.trans (ba.mono bb.size)
      clear ba
      obtain ⟨Bvq0, Bvq1, Bvq2, Bvr0, Bvr1, Bvr2⟩ := Bv.three
      have Bvl := Bv.lt
      obtain ⟨Bwq0, Bwq1, Bwq2, Bwr0, Bwr1, Bwr2⟩ := Bw.three
      have Bwl := Bw.lt
      go_wp2_with fail
      clear Bvq0 Bvq1 Bvq2 Bvr0 Bvr1 Bvr2
      clear Bwq0 Bwq1 Bwq2 Bwr0 Bwr1 Bwr2
      obtain ⟨L1, hr1⟩ : ∃ L, Hid (wrF ⟨a1_0, a1_1, l1⟩ = some L) := ⟨_, wr_yes H1.out k1⟩
      have hC := BytesErr.no (rWrite_any a0_0 a0_1 a0_2 len0_2 cap0_2 l0 w1 hT s0) (wr_no H0.out k0)
      refine hC.mono ?_
      clear hC
      rintro e w2 ⟨A1, n1, c1, rfl, x1, f1, b1⟩
      replace hT := hT.below b1
      replace s0 := s0.below b1
      replace s1 := s1.below b1
      replace Bv := Bv.under b1
      replace Bw := Bw.under b1
      replace bb := bb.trans (b1.mono bb.size)
      clear f1 b1
      obtain ⟨Bvq0, Bvq1, Bvq2, Bvr0, Bvr1, Bvr2⟩ := Bv.three
      have Bvl := Bv.lt
      obtain ⟨Bwq0, Bwq1, Bwq2, Bwr0, Bwr1, Bwr2⟩ := Bw.three
      have Bwl := Bw.lt
      go_wp2_with fail
      clear Bvq0 Bvq1 Bvq2 Bvr0 Bvr1 Bvr2
      clear Bwq0 Bwq1 Bwq2 Bwr0 Bwr1 Bwr2
      have hC := BytesErr.ok (rWrite_any a1_0 a1_1 a1_2 len1_2 cap1_2 l1 w2 hT s1) hr1.out
      refine hC.mono ?_
      clear hC
      rintro e w3 ⟨A2, n2, c2, rfl, x2, f2, b2⟩
      replace hT := hT.below b2
      replace s0 := s0.below b2
      replace s1 := s1.below b2
      replace Bv := Bv.under b2
      replace Bw := Bw.under b2
      replace x1 := x1.below b2
      replace bb := bb.trans (b2.mono bb.size)
      clear f2 b2
      obtain ⟨Bvq0, Bvq1, Bvq2, Bvr0, Bvr1, Bvr2⟩ := Bv.three
      have Bvl := Bv.lt
      obtain ⟨Bwq0, Bwq1, Bwq2, Bwr0, Bwr1, Bwr2⟩ := Bw.three
      have Bwl := Bw.lt
      go_wp2
      clear Bvq0 Bvq1 Bvq2 Bvr0 Bvr1 Bvr2
      clear Bwq0 Bwq1 Bwq2 Bwr0 Bwr1 Bwr2
      go_ret
      exact ⟨rfl, bb⟩
  cases k1 : rchk a1_0 a1_1 len1_2
  · have bb := Below.refl w.heap.size w
    go_enter Tryd.func7, Tryd.ntmps7
    replace hT := hT.alloc (.cells #[.int .i64 a0_0, .int .i64 a0_1, .slice a0_2 len0_2 cap0_2] 25)
    replace s0 := s0.alloc (.cells #[.int .i64 a0_0, .int .i64 a0_1, .slice a0_2 len0_2 cap0_2] 25)
    replace s1 := s1.alloc (.cells #[.int .i64 a0_0, .int .i64 a0_1, .slice a0_2 len0_2 cap0_2] 25)
    replace bb := bb.alloc bb.size (.cells #[.int .i64 a0_0, .int .i64 a0_1, .slice a0_2 len0_2 cap0_2] 25)
    have Bv := Blk.new w #[.int .i64 a0_0, .int .i64 a0_1, .slice a0_2 len0_2 cap0_2] 25
    replace hT := hT.alloc (.cells #[.int .i64 a1_0, .int .i64 a1_1, .slice a1_2 len1_2 cap1_2] 25)
    replace s0 := s0.alloc (.cells #[.int .i64 a1_0, .int .i64 a1_1, .slice a1_2 len1_2 cap1_2] 25)
    replace s1 := s1.alloc (.cells #[.int .i64 a1_0, .int .i64 a1_1, .slice a1_2 len1_2 cap1_2] 25)
    replace Bv := Bv.alloc (.cells #[.int .i64 a1_0, .int .i64 a1_1, .slice a1_2 len1_2 cap1_2] 25)
    replace bb := bb.alloc bb.size (.cells #[.int .i64 a1_0, .int .i64 a1_1, .slice a1_2 len1_2 cap1_2] 25)
    have Bw := Blk.new (w.alloc (.cells #[.int .i64 a0_0, .int .i64 a0_1, .slice a0_2 len0_2 cap0_2] 25)) #[.int .i64 a1_0, .int .i64 a1_1, .slice a1_2 len1_2 cap1_2] 25
    simp only [World.size_alloc] at Bw
    go_wp2_with fail
    generalize ((w.alloc (.cells #[.int .i64 a0_0, .int .i64 a0_1, .slice a0_2 len0_2 cap0_2] 25)).alloc (.cells #[.int .i64 a1_0, .int .i64 a1_1, .slice a1_2 len1_2 cap1_2] 25)) = W1 at *
    have hC := awake5_any W1 hT
    refine hC.mono ?_
    clear hC
    rintro e w1 ⟨rfl, ba⟩
    replace hT := hT.below ba
    replace s0 := s0.below ba
    replace s1 := s1.below ba
    replace Bv := Bv.under ba
    replace Bw := Bw.under ba
    replace bb := bb.trans (ba.mono bb.size)
    clear ba
    obtain ⟨Bvq0, Bvq1, Bvq2, Bvr0, Bvr1, Bvr2⟩ := Bv.three
    have Bvl := Bv.lt
    obtain ⟨Bwq0, Bwq1, Bwq2, Bwr0, Bwr1, Bwr2⟩ := Bw.three
    have Bwl := Bw.lt
    go_wp2_with fail
    clear Bvq0 Bvq1 Bvq2 Bvr0 Bvr1 Bvr2
    clear Bwq0 Bwq1 Bwq2 Bwr0 Bwr1 Bwr2
    obtain ⟨L0, hr0⟩ : ∃ L, Hid (wrF ⟨a0_0, a0_1, l0⟩ = some L) := ⟨_, wr_yes H0.out k0⟩
    have hC := BytesErr.ok (rWrite_any a0_0 a0_1 a0_2 len0_2 cap0_2 l0 w1 hT s0) hr0.out
    refine hC.mono ?_
    clear hC
    rintro e w2 ⟨A1, n1, c1, rfl, x1, f1, b1⟩
    replace hT := hT.below b1
    replace s0 := s0.below b1
    replace s1 := s1.below b1
    replace Bv := Bv.under b1
    replace Bw := Bw.under b1
    replace bb := bb.trans (b1.mono bb.size)
    clear f1 b1
    obtain ⟨Bvq0, Bvq1, Bvq2, Bvr0, Bvr1, Bvr2⟩ := Bv.three
    have Bvl := Bv.lt
    obtain ⟨Bwq0, Bwq1, Bwq2, Bwr0, Bwr1, Bwr2⟩ := Bw.three
    have Bwl := Bw.lt
    go_wp2_with fail
    clear Bvq0 Bvq1 Bvq2 Bvr0 Bvr1 Bvr2
    clear Bwq0 Bwq1 Bwq2 Bwr0 Bwr1 Bwr2
    have hC := BytesErr.no (rWrite_any a1_0 a1_1 a1_2 len1_2 cap1_2 l1 w2 hT s1) (wr_no H1.out k1)
    refine hC.mono ?_
    clear hC
    rintro e w3 ⟨A2, n2, c2, rfl, x2, f2, b2⟩
    replace hT := hT.below b2
    replace s0 := s0.below b2
    replace s1 := s1.below b2
    replace Bv := Bv.under b2
    replace Bw := Bw.under b2
    replace x1 := x1.below b2
    replace bb := bb.trans (b2.mono bb.size)
    clear f2 b2
    obtain ⟨Bvq0, Bvq1, Bvq2, Bvr0, Bvr1, Bvr2⟩ := Bv.three
    have Bvl := Bv.lt
    obtain ⟨Bwq0, Bwq1, Bwq2, Bwr0, Bwr1, Bwr2⟩ := Bw.three
    have Bwl := Bw.lt
    go_wp2
    clear Bvq0 Bvq1 Bvq2 Bvr0 Bvr1 Bvr2
    clear Bwq0 Bwq1 Bwq2 Bwr0 Bwr1 Bwr2
    go_ret
    exact ⟨rfl, bb⟩
  by_cases g0 : (300 : Int) < (len0_2 : Int)
  · have bb := Below.refl w.heap.size w
    go_enter Tryd.func7, Tryd.ntmps7
    replace hT := hT.alloc (.cells #[.int .i64 a0_0, .int .i64 a0_1, .slice a0_2 len0_2 cap0_2] 25)
    replace s0 := s0.alloc (.cells #[.int .i64 a0_0, .int .i64 a0_1, .slice a0_2 len0_2 cap0_2] 25)
    replace s1 := s1.alloc (.cells #[.int .i64 a0_0, .int .i64 a0_1, .slice a0_2 len0_2 cap0_2] 25)
    replace bb := bb.alloc bb.size (.cells #[.int .i64 a0_0, .int .i64 a0_1, .slice a0_2 len0_2 cap0_2] 25)
    have Bv := Blk.new w #[.int .i64 a0_0, .int .i64 a0_1, .slice a0_2 len0_2 cap0_2] 25
    replace hT := hT.alloc (.cells #[.int .i64 a1_0, .int .i64 a1_1, .slice a1_2 len1_2 cap1_2] 25)
    replace s0 := s0.alloc (.cells #[.int .i64 a1_0, .int .i64 a1_1, .slice a1_2 len1_2 cap1_2] 25)
    replace s1 := s1.alloc (.cells #[.int .i64 a1_0, .int .i64 a1_1, .slice a1_2 len1_2 cap1_2] 25)
    replace Bv := Bv.alloc (.cells #[.int .i64 a1_0, .int .i64 a1_1, .slice a1_2 len1_2 cap1_2] 25)
    replace bb := bb.alloc bb.size (.cells #[.int .i64 a1_0, .int .i64 a1_1, .slice a1_2 len1_2 cap1_2] 25)
    have Bw := Blk.new (w.alloc (.cells #[.int .i64 a0_0, .int .i64 a0_1, .slice a0_2 len0_2 cap0_2] 25)) #[.int .i64 a1_0, .int .i64 a1_1, .slice a1_2 len1_2 cap1_2] 25
    simp only [World.size_alloc] at Bw
    go_wp2_with fail
    generalize ((w.alloc (.cells #[.int .i64 a0_0, .int .i64 a0_1, .slice a0_2 len0_2 cap0_2] 25)).alloc (.cells #[.int .i64 a1_0, .int .i64 a1_1, .slice a1_2 len1_2 cap1_2] 25)) = W1 at *
    have hC := awake5_any W1 hT
    refine hC.mono ?_
    clear hC
    rintro e w1 ⟨rfl, ba⟩
    replace hT := hT.below ba
    replace s0 := s0.below ba
    replace s1 := s1.below ba
    replace Bv := Bv.under ba
    replace Bw := Bw.under ba
    replace bb := bb.trans (ba.mono bb.size)
    clear ba
    obtain ⟨Bvq0, Bvq1, Bvq2, Bvr0, Bvr1, Bvr2⟩ := Bv.three
    have Bvl := Bv.lt
    obtain ⟨Bwq0, Bwq1, Bwq2, Bwr0, Bwr1, Bwr2⟩ := Bw.three
    have Bwl := Bw.lt
    go_wp2_with fail
    clear Bvq0 Bvq1 Bvq2 Bvr0 Bvr1 Bvr2
    clear Bwq0 Bwq1 Bwq2 Bwr0 Bwr1 Bwr2
    obtain ⟨L0, hr0⟩ : ∃ L, Hid (wrF ⟨a0_0, a0_1, l0⟩ = some L) := ⟨_, wr_yes H0.out k0⟩
    obtain ⟨L1, hr1⟩ : ∃ L, Hid (wrF ⟨a1_0, a1_1, l1⟩ = some L) := ⟨_, wr_yes H1.out k1⟩
    have hC := BytesErr.ok (rWrite_any a0_0 a0_1 a0_2 len0_2 cap0_2 l0 w1 hT s0) hr0.out
    refine hC.mono ?_
    clear hC
    rintro e w2 ⟨A1, n1, c1, rfl, x1, f1, b1⟩
    replace hT := hT.below b1
    replace s0 := s0.below b1
    replace s1 := s1.below b1
    replace Bv := Bv.under b1
    replace Bw := Bw.under b1
    replace bb := bb.trans (b1.mono bb.size)
    clear f1 b1
    obtain ⟨Bvq0, Bvq1, Bvq2, Bvr0, Bvr1, Bvr2⟩ := Bv.three
    have Bvl := Bv.lt
    obtain ⟨Bwq0, Bwq1, Bwq2, Bwr0, Bwr1, Bwr2⟩ := Bw.three
    have Bwl := Bw.lt
    go_wp2_with fail
    clear Bvq0 Bvq1 Bvq2 Bvr0 Bvr1 Bvr2
    clear Bwq0 Bwq1 Bwq2 Bwr0 Bwr1 Bwr2
    have hC := BytesErr.ok (rWrite_any a1_0 a1_1 a1_2 len1_2 cap1_2 l1 w2 hT s1) hr1.out
    refine hC.mono ?_
    clear hC
    rintro e w3 ⟨A2, n2, c2, rfl, x2, f2, b2⟩
    replace hT := hT.below b2
    replace s0 := s0.below b2
    replace s1 := s1.below b2
    replace Bv := Bv.under b2
    replace Bw := Bw.under b2
    replace x1 := x1.below b2
    replace bb := bb.trans (b2.mono bb.size)
    clear f2 b2
    obtain ⟨Bvq0, Bvq1, Bvq2, Bvr0, Bvr1, Bvr2⟩ := Bv.three
    have Bvl := Bv.lt
    obtain ⟨Bwq0, Bwq1, Bwq2, Bwr0, Bwr1, Bwr2⟩ := Bw.three
    have Bwl := Bw.lt
    go_wp2
    clear Bvq0 Bvq1 Bvq2 Bvr0 Bvr1 Bvr2
    clear Bwq0 Bwq1 Bwq2 Bwr0 Bwr1 Bwr2
    go_ret
    exact ⟨rfl, bb⟩
  by_cases g1 : (300 : Int) < (len1_2 : Int)
  · have bb := Below.refl w.heap.size w
    go_enter Tryd.func7, Tryd.ntmps7
    replace hT := hT.alloc (.cells #[.int .i64 a0_0, .int .i64 a0_1, .slice a0_2 len0_2 cap0_2] 25)
    replace s0 := s0.alloc (.cells #[.int .i64 a0_0, .int .i64 a0_1, .slice a0_2 len0_2 cap0_2] 25)
    replace s1 := s1.alloc (.cells #[.int .i64 a0_0, .int .i64 a0_1, .slice a0_2 len0_2 cap0_2] 25)
    replace bb := bb.alloc bb.size (.cells #[.int .i64 a0_0, .int .i64 a0_1, .slice a0_2 len0_2 cap0_2] 25)
    have Bv := Blk.new w #[.int .i64 a0_0, .int .i64 a0_1, .slice a0_2 len0_2 cap0_2] 25
    replace hT := hT.alloc (.cells #[.int .i64 a1_0, .int .i64 a1_1, .slice a1_2 len1_2 cap1_2] 25)
    replace s0 := s0.alloc (.cells #[.int .i64 a1_0, .int .i64 a1_1, .slice a1_2 len1_2 cap1_2] 25)
    replace s1 := s1.alloc (.cells #[.int .i64 a1_0, .int .i64 a1_1, .slice a1_2 len1_2 cap1_2] 25)
    replace Bv := Bv.alloc (.cells #[.int .i64 a1_0, .int .i64 a1_1, .slice a1_2 len1_2 cap1_2] 25)
    replace bb := bb.alloc bb.size (.cells #[.int .i64 a1_0, .int .i64 a1_1, .slice a1_2 len1_2 cap1_2] 25)
    have Bw := Blk.new (w.alloc (.cells #[.int .i64 a0_0, .int .i64 a0_1, .slice a0_2 len0_2 cap0_2] 25)) #[.int .i64 a1_0, .int .i64 a1_1, .slice a1_2 len1_2 cap1_2] 25
    simp only [World.size_alloc] at Bw
    go_wp2_with fail
    generalize ((w.alloc (.cells #[.int .i64 a0_0, .int .i64 a0_1, .slice a0_2 len0_2 cap0_2] 25)).alloc (.cells #[.int .i64 a1_0, .int .i64 a1_1, .slice a1_2 len1_2 cap1_2] 25)) = W1 at *
    have hC := awake5_any W1 hT
    refine hC.mono ?_
    clear hC
    rintro e w1 ⟨rfl, ba⟩
    replace hT := hT.below ba
    replace s0 := s0.below ba
    replace s1 := s1.below ba
    replace Bv := Bv.under ba
    replace Bw := Bw.under ba
    replace bb := bb.trans (ba.mono bb.size)
    clear ba
    obtain ⟨Bvq0, Bvq1, Bvq2, Bvr0, Bvr1, Bvr2⟩ := Bv.three
    have Bvl := Bv.lt
    obtain ⟨Bwq0, Bwq1, Bwq2, Bwr0, Bwr1, Bwr2⟩ := Bw.three
    have Bwl := Bw.lt
    go_wp2_with fail
    clear Bvq0 Bvq1 Bvq2 Bvr0 Bvr1 Bvr2
    clear Bwq0 Bwq1 Bwq2 Bwr0 Bwr1 Bwr2
    obtain ⟨L0, hr0⟩ : ∃ L, Hid (wrF ⟨a0_0, a0_1, l0⟩ = some L) := ⟨_, wr_yes H0.out k0⟩
    obtain ⟨L1, hr1⟩ : ∃ L, Hid (wrF ⟨a1_0, a1_1, l1⟩ = some L) := ⟨_, wr_yes H1.out k1⟩
    have hC := BytesErr.ok (rWrite_any a0_0 a0_1 a0_2 len0_2 cap0_2 l0 w1 hT s0) hr0.out
    refine hC.mono ?_
    clear hC
    rintro e w2 ⟨A1, n1, c1, rfl, x1, f1, b1⟩
    replace hT := hT.below b1
    replace s0 := s0.below b1
    replace s1 := s1.below b1
    replace Bv := Bv.under b1
    replace Bw := Bw.under b1
    replace bb := bb.trans (b1.mono bb.size)
    clear f1 b1
    obtain ⟨Bvq0, Bvq1, Bvq2, Bvr0, Bvr1, Bvr2⟩ := Bv.three
    have Bvl := Bv.lt
    obtain ⟨Bwq0, Bwq1, Bwq2, Bwr0, Bwr1, Bwr2⟩ := Bw.three
    have Bwl := Bw.lt
    go_wp2_with fail
    clear Bvq0 Bvq1 Bvq2 Bvr0 Bvr1 Bvr2
    clear Bwq0 Bwq1 Bwq2 Bwr0 Bwr1 Bwr2
    have hC := BytesErr.ok (rWrite_any a1_0 a1_1 a1_2 len1_2 cap1_2 l1 w2 hT s1) hr1.out
    refine hC.mono ?_
    clear hC
    rintro e w3 ⟨A2, n2, c2, rfl, x2, f2, b2⟩
    replace hT := hT.below b2
    replace s0 := s0.below b2
    replace s1 := s1.below b2
    replace Bv := Bv.under b2
    replace Bw := Bw.under b2
    replace x1 := x1.below b2
    replace bb := bb.trans (b2.mono bb.size)
    clear f2 b2
    obtain ⟨Bvq0, Bvq1, Bvq2, Bvr0, Bvr1, Bvr2⟩ := Bv.three
    have Bvl := Bv.lt
    obtain ⟨Bwq0, Bwq1, Bwq2, Bwr0, Bwr1, Bwr2⟩ := Bw.three
    have Bwl := Bw.lt
    go_wp2
    clear Bvq0 Bvq1 Bvq2 Bvr0 Bvr1 Bvr2
    clear Bwq0 Bwq1 Bwq2 Bwr0 Bwr1 Bwr2
    go_ret
    exact ⟨rfl, bb⟩
  by_cases hle : (len0_2 : Int) ≤ (len1_2 : Int)
  · have hn : len0_2 + 20 = min (len0_2 + 20) (len1_2 + 20) := by omega
    obtain ⟨L0, L1, hr0, hr1, hl, hS⟩ : ∃ L0 L1, Hid (wrF ⟨a0_0, a0_1, l0⟩ = some L0) ∧ Hid (wrF ⟨a1_0, a1_1, l1⟩ = some L1) ∧ Hid (L0.length = len0_2 + 20 ∧ L1.length = len1_2 + 20) ∧ Hid ((L0.take (len0_2 + 20) == L1.take (len0_2 + 20)) = sameR a0_0 a0_1 l0 a1_0 a1_1 l1) := by
      have o0 : Rp.ok ⟨a0_0, a0_1, l0⟩ = true := by unfold Rp.ok; rw [H0.out]; exact k0
      have o1 : Rp.ok ⟨a1_0, a1_1, l1⟩ = true := by unfold Rp.ok; rw [H1.out]; exact k1
      refine ⟨_, _, wrF_yes o0, wrF_yes o1, ⟨by rw [recB_length, H0.out], by rw [recB_length, H1.out]⟩, ?_⟩
      exact apart_same o0 o1 (by rw [recB_length, recB_length, H0.out, H1.out]; exact hn)
    replace hn := Lib.hid hn
    have bb := Below.refl w.heap.size w
    go_enter Tryd.func7, Tryd.ntmps7
    replace hT := hT.alloc (.cells #[.int .i64 a0_0, .int .i64 a0_1, .slice a0_2 len0_2 cap0_2] 25)
    replace s0 := s0.alloc (.cells #[.int .i64 a0_0, .int .i64 a0_1, .slice a0_2 len0_2 cap0_2] 25)
    replace s1 := s1.alloc (.cells #[.int .i64 a0_0, .int .i64 a0_1, .slice a0_2 len0_2 cap0_2] 25)
    replace bb := bb.alloc bb.size (.cells #[.int .i64 a0_0, .int .i64 a0_1, .slice a0_2 len0_2 cap0_2] 25)
    have Bv := Blk.new w #[.int .i64 a0_0, .int .i64 a0_1, .slice a0_2 len0_2 cap0_2] 25
    replace hT := hT.alloc (.cells #[.int .i64 a1_0, .int .i64 a1_1, .slice a1_2 len1_2 cap1_2] 25)
    replace s0 := s0.alloc (.cells #[.int .i64 a1_0, .int .i64 a1_1, .slice a1_2 len1_2 cap1_2] 25)
    replace s1 := s1.alloc (.cells #[.int .i64 a1_0, .int .i64 a1_1, .slice a1_2 len1_2 cap1_2] 25)
    replace Bv := Bv.alloc (.cells #[.int .i64 a1_0, .int .i64 a1_1, .slice a1_2 len1_2 cap1_2] 25)
    replace bb := bb.alloc bb.size (.cells #[.int .i64 a1_0, .int .i64 a1_1, .slice a1_2 len1_2 cap1_2] 25)
    have Bw := Blk.new (w.alloc (.cells #[.int .i64 a0_0, .int .i64 a0_1, .slice a0_2 len0_2 cap0_2] 25)) #[.int .i64 a1_0, .int .i64 a1_1, .slice a1_2 len1_2 cap1_2] 25
    simp only [World.size_alloc] at Bw
    go_wp2_with fail
    generalize ((w.alloc (.cells #[.int .i64 a0_0, .int .i64 a0_1, .slice a0_2 len0_2 cap0_2] 25)).alloc (.cells #[.int .i64 a1_0, .int .i64 a1_1, .slice a1_2 len1_2 cap1_2] 25)) = W1 at *
    have hC := awake5_any W1 hT
    refine hC.mono ?_
    clear hC
    rintro e w1 ⟨rfl, ba⟩
    replace hT := hT.below ba
    replace s0 := s0.below ba
    replace s1 := s1.below ba
    replace Bv := Bv.under ba
    replace Bw := Bw.under ba
    replace bb := bb.trans (ba.mono bb.size)
    clear ba
    obtain ⟨Bvq0, Bvq1, Bvq2, Bvr0, Bvr1, Bvr2⟩ := Bv.three
    have Bvl := Bv.lt
    obtain ⟨Bwq0, Bwq1, Bwq2, Bwr0, Bwr1, Bwr2⟩ := Bw.three
    have Bwl := Bw.lt
    go_wp2_with fail
    clear Bvq0 Bvq1 Bvq2 Bvr0 Bvr1 Bvr2
    clear Bwq0 Bwq1 Bwq2 Bwr0 Bwr1 Bwr2
    have hC := BytesErr.ok (rWrite_any a0_0 a0_1 a0_2 len0_2 cap0_2 l0 w1 hT s0) hr0.out
    refine hC.mono ?_
    clear hC
    rintro e w2 ⟨A1, n1, c1, rfl, x1, f1, b1⟩
    replace hT := hT.below b1
    replace s0 := s0.below b1
    replace s1 := s1.below b1
    replace Bv := Bv.under b1
    replace Bw := Bw.under b1
    replace bb := bb.trans (b1.mono bb.size)
    clear f1 b1
    obtain ⟨Bvq0, Bvq1, Bvq2, Bvr0, Bvr1, Bvr2⟩ := Bv.three
    have Bvl := Bv.lt
    obtain ⟨Bwq0, Bwq1, Bwq2, Bwr0, Bwr1, Bwr2⟩ := Bw.three
    have Bwl := Bw.lt
    go_wp2_with fail
    clear Bvq0 Bvq1 Bvq2 Bvr0 Bvr1 Bvr2
    clear Bwq0 Bwq1 Bwq2 Bwr0 Bwr1 Bwr2
    have hC := BytesErr.ok (rWrite_any a1_0 a1_1 a1_2 len1_2 cap1_2 l1 w2 hT s1) hr1.out
    refine hC.mono ?_
    clear hC
    rintro e w3 ⟨A2, n2, c2, rfl, x2, f2, b2⟩
    replace hT := hT.below b2
    replace s0 := s0.below b2
    replace s1 := s1.below b2
    replace Bv := Bv.under b2
    replace Bw := Bw.under b2
    replace x1 := x1.below b2
    replace bb := bb.trans (b2.mono bb.size)
    clear f2 b2
    obtain rfl : n1 = len0_2 + 20 := by rw [← x1.len8]; exact hl.out.1
    obtain rfl : n2 = len1_2 + 20 := by rw [← x2.len8]; exact hl.out.2
    have hcx := x1.cap
    have hbx := x1.big
    have hcy := x2.cap
    have hby := x2.big
    obtain ⟨Bvq0, Bvq1, Bvq2, Bvr0, Bvr1, Bvr2⟩ := Bv.three
    have Bvl := Bv.lt
    obtain ⟨Bwq0, Bwq1, Bwq2, Bwr0, Bwr1, Bwr2⟩ := Bw.three
    have Bwl := Bw.lt
    go_wp2_with fail
    clear Bvq0 Bvq1 Bvq2 Bvr0 Bvr1 Bvr2
    clear Bwq0 Bwq1 Bwq2 Bwr0 Bwr1 Bwr2
    have hC := recSame_any a0_0 a0_1 a0_2 len0_2 cap0_2 l0 a1_0 a1_1 a1_2 len1_2 cap1_2 l1 w3 s0 s1
    refine hC.mono ?_
    clear hC
    rintro e w4 ⟨rfl, b4⟩
    replace hT := hT.below b4
    replace s0 := s0.below b4
    replace s1 := s1.below b4
    replace Bv := Bv.under b4
    replace Bw := Bw.under b4
    replace x1 := x1.below b4
    replace x2 := x2.below b4
    replace bb := bb.trans (b4.mono bb.size)
    clear b4
    have xm := x1.upto (m := len0_2 + 20) (by omega)
    rw [← List.map_take] at xm
    have ym := x2.upto (m := len0_2 + 20) (by omega)
    rw [← List.map_take] at ym
    have hS2 := hS.out
    generalize sameR a0_0 a0_1 l0 a1_0 a1_1 l1 = same at *
    generalize L0.take (len0_2 + 20) = M0 at *
    generalize L1.take (len0_2 + 20) = M1 at *
    have hS3 := (bytes_beq M0 M1).trans hS2
    go_wp2_with fail
    refine wp_region_held_drew (S := fun w' => Below w4.heap.size w4 w') (by kernel_rfl) (Below.refl _ _).drew (fun hHeld => ?_)
    try dsimp only at hHeld
    have bd : Below w4.heap.size w4 w4.drew := (Below.refl w4.heap.size w4).drew
    generalize w4.drew = wd at *
    try simp only [Act.put, List.setIfInBounds_toArray, List.set_cons_zero, List.set_cons_succ]
    refine wpAnyH_take (i := 0) (v := ?_) (by simp only [List.getElem?_toArray, List.getElem?_cons_zero]; rfl) (by kernel_rfl) (by kernel_rfl) (by kernel_rfl) (by intro _ _ _ h; exact h) (Or.inl ⟨by rfl, ?_⟩) hHeld ?_
    rotate_left 1
    · intro wq hSw
      try dsimp only at hSw
      go_simp
      try (with_reducible rfl)
    try simp only [Act.put, List.setIfInBounds_toArray, List.set_cons_zero, List.set_cons_succ]
    refine wpAnyH_take (i := 1) (v := ?_) (by simp only [List.getElem?_toArray, List.getElem?_cons_succ, List.getElem?_cons_zero]; rfl) (by kernel_rfl) (by kernel_rfl) (by kernel_rfl) (by intro _ _ _ h; exact h) (Or.inl ⟨by rfl, ?_⟩) hHeld ?_
    rotate_left 1
    · intro wq hSw
      try dsimp only at hSw
      go_simp
      try (with_reducible rfl)
    try simp only [Act.put, List.setIfInBounds_toArray, List.set_cons_zero, List.set_cons_succ]
    refine wpAnyH_take (i := 2) (v := ?_) (by simp only [List.getElem?_toArray, List.getElem?_cons_succ, List.getElem?_cons_zero]; rfl) (by kernel_rfl) (by kernel_rfl) (by kernel_rfl) (by intro _ _ _ h; exact h) (Or.inl ⟨by rfl, ?_⟩) hHeld ?_
    rotate_left 1
    · intro wq hSw
      try dsimp only at hSw
      go_simp
      try (with_reducible rfl)
    try simp only [Act.put, List.setIfInBounds_toArray, List.set_cons_zero, List.set_cons_succ]
    refine wpAnyH_take (i := 3) (v := ?_) (by simp only [List.getElem?_toArray, List.getElem?_cons_succ, List.getElem?_cons_zero]; rfl) (by kernel_rfl) (by kernel_rfl) (by kernel_rfl) (by intro _ _ _ h; exact h) (Or.inl ⟨by rfl, ?_⟩) hHeld ?_
    rotate_left 1
    · intro wq hSw
      try dsimp only at hSw
      go_simp
      try (with_reducible rfl)
    try simp only [Act.put, List.setIfInBounds_toArray, List.set_cons_zero, List.set_cons_succ]
    refine wpAnyH_take (i := 4) (v := ?_) (by simp only [List.getElem?_toArray, List.getElem?_cons_succ, List.getElem?_cons_zero]; rfl) (by kernel_rfl) (by kernel_rfl) (by kernel_rfl) (by intro _ _ _ h; exact h) (Or.inl ⟨by rfl, ?_⟩) hHeld ?_
    rotate_left 1
    · intro wq hSw
      try dsimp only at hSw
      have hh : 0 ≤ (len0_2 : Int) + 20 ∧ (len0_2 : Int) + 20 ≤ (c1 : Int) := ⟨by omega, by omega⟩
      have ht : ((len0_2 : Int) + 20).toNat = len0_2 + 20 := by omega
      go_simp
      try (with_reducible rfl)
    try simp only [Act.put, List.setIfInBounds_toArray, List.set_cons_zero, List.set_cons_succ]
    refine wpAnyH_take (i := 5) (v := ?_) (by simp only [List.getElem?_toArray, List.getElem?_cons_succ, List.getElem?_cons_zero]; rfl) (by kernel_rfl) (by kernel_rfl) (by kernel_rfl) (by intro _ _ _ h; exact h) (Or.inl ⟨by rfl, ?_⟩) hHeld ?_
    rotate_left 1
    · intro wq hSw
      try dsimp only at hSw
      have q8 := str_of (xm.below hSw)
      go_simp
      try (with_reducible rfl)
    try simp only [Act.put, List.setIfInBounds_toArray, List.set_cons_zero, List.set_cons_succ]
    refine wpAnyH_take (i := 6) (v := ?_) (by simp only [List.getElem?_toArray, List.getElem?_cons_succ, List.getElem?_cons_zero]; rfl) (by kernel_rfl) (by kernel_rfl) (by kernel_rfl) (by intro _ _ _ h; exact h) (Or.inl ⟨by rfl, ?_⟩) hHeld ?_
    rotate_left 1
    · intro wq hSw
      try dsimp only at hSw
      go_simp
      try (with_reducible rfl)
    try simp only [Act.put, List.setIfInBounds_toArray, List.set_cons_zero, List.set_cons_succ]
    refine wpAnyH_take (i := 7) (v := ?_) (by simp only [List.getElem?_toArray, List.getElem?_cons_succ, List.getElem?_cons_zero]; rfl) (by kernel_rfl) (by kernel_rfl) (by kernel_rfl) (by intro _ _ _ h; exact h) (Or.inl ⟨by rfl, ?_⟩) hHeld ?_
    rotate_left 1
    · intro wq hSw
      try dsimp only at hSw
      go_simp
      try (with_reducible rfl)
    try simp only [Act.put, List.setIfInBounds_toArray, List.set_cons_zero, List.set_cons_succ]
    refine wpAnyH_take (i := 8) (v := ?_) (by simp only [List.getElem?_toArray, List.getElem?_cons_succ, List.getElem?_cons_zero]; rfl) (by kernel_rfl) (by kernel_rfl) (by kernel_rfl) (by intro _ _ _ h; exact h) (Or.inl ⟨by rfl, ?_⟩) hHeld ?_
    rotate_left 1
    · intro wq hSw
      try dsimp only at hSw
      have hh : 0 ≤ (len0_2 : Int) + 20 ∧ (len0_2 : Int) + 20 ≤ (c2 : Int) := ⟨by omega, by omega⟩
      have ht : ((len0_2 : Int) + 20).toNat = len0_2 + 20 := by omega
      go_simp
      try (with_reducible rfl)
    try simp only [Act.put, List.setIfInBounds_toArray, List.set_cons_zero, List.set_cons_succ]
    refine wpAnyH_take (i := 9) (v := ?_) (by simp only [List.getElem?_toArray, List.getElem?_cons_succ, List.getElem?_cons_zero]; rfl) (by kernel_rfl) (by kernel_rfl) (by kernel_rfl) (by intro _ _ _ h; exact h) (Or.inl ⟨by rfl, ?_⟩) hHeld ?_
    rotate_left 1
    · intro wq hSw
      try dsimp only at hSw
      have q8 := str_of (ym.below hSw)
      go_simp
      try (with_reducible rfl)
    try simp only [Act.put, List.setIfInBounds_toArray, List.set_cons_zero, List.set_cons_succ]
    refine wpAnyH_take (i := 10) (v := ?_) (by simp only [List.getElem?_toArray, List.getElem?_cons_succ, List.getElem?_cons_zero]; rfl) (by kernel_rfl) (by kernel_rfl) (by kernel_rfl) (by intro _ _ _ h; exact h) (Or.inl ⟨by rfl, ?_⟩) hHeld ?_
    rotate_left 1
    · intro wq hSw
      try dsimp only at hSw
      go_simp
      try (with_reducible rfl)
    try simp only [Act.put, List.setIfInBounds_toArray, List.set_cons_zero, List.set_cons_succ]
    refine wpAnyH_take (i := 11) (v := ?_) (by simp only [List.getElem?_toArray, List.getElem?_cons_succ, List.getElem?_cons_zero]; rfl) (by kernel_rfl) (by kernel_rfl) (by kernel_rfl) (by intro _ _ _ h; exact h) (Or.inl ⟨by rfl, ?_⟩) hHeld ?_
    rotate_left 1
    · intro wq hSw
      try dsimp only at hSw
      go_simp
      try (with_reducible rfl)
    try simp only [Act.put, List.setIfInBounds_toArray, List.set_cons_zero, List.set_cons_succ]
    refine wpAnyH_take (i := 12) (v := ?_) (by simp only [List.getElem?_toArray, List.getElem?_cons_succ, List.getElem?_cons_zero]; rfl) (by kernel_rfl) (by kernel_rfl) (by kernel_rfl) (by intro _ _ _ h; exact h) (Or.inl ⟨by rfl, ?_⟩) hHeld ?_
    rotate_left 1
    · intro wq hSw
      try dsimp only at hSw
      go_simp
      try (with_reducible rfl)
    try simp only [Act.put, List.setIfInBounds_toArray, List.set_cons_zero, List.set_cons_succ]
    refine wpAnyH_take (i := 13) (v := ?_) (by simp only [List.getElem?_toArray, List.getElem?_cons_succ, List.getElem?_cons_zero]; rfl) (by kernel_rfl) (by kernel_rfl) (by kernel_rfl) (by intro _ _ _ h; exact h) (Or.inl ⟨by rfl, ?_⟩) hHeld ?_
    rotate_left 1
    · intro wq hSw
      try dsimp only at hSw
      go_simp
      try (with_reducible rfl)
    try simp only [Act.put, List.setIfInBounds_toArray, List.set_cons_zero, List.set_cons_succ]
    refine wpAnyH_take (i := 14) (v := ?_) (by simp only [List.getElem?_toArray, List.getElem?_cons_succ, List.getElem?_cons_zero]; rfl) (by kernel_rfl) (by kernel_rfl) (by kernel_rfl) (by intro _ _ _ h; exact h) (Or.inl ⟨by rfl, ?_⟩) hHeld ?_
    rotate_left 1
    · intro wq hSw
      try dsimp only at hSw
      go_simp
      try (with_reducible rfl)
    try simp only [Act.put, List.setIfInBounds_toArray, List.set_cons_zero, List.set_cons_succ]
    refine wpAnyH_done (by kernel_rfl) ?_ _
    replace bb := bb.trans (bd.mono bb.size)
    go_wp2
    go_ret
    exact ⟨rfl, bb⟩
  · have hn : len1_2 + 20 = min (len0_2 + 20) (len1_2 + 20) := by omega
    obtain ⟨L0, L1, hr0, hr1, hl, hS⟩ : ∃ L0 L1, Hid (wrF ⟨a0_0, a0_1, l0⟩ = some L0) ∧ Hid (wrF ⟨a1_0, a1_1, l1⟩ = some L1) ∧ Hid (L0.length = len0_2 + 20 ∧ L1.length = len1_2 + 20) ∧ Hid ((L0.take (len1_2 + 20) == L1.take (len1_2 + 20)) = sameR a0_0 a0_1 l0 a1_0 a1_1 l1) := by
      have o0 : Rp.ok ⟨a0_0, a0_1, l0⟩ = true := by unfold Rp.ok; rw [H0.out]; exact k0
      have o1 : Rp.ok ⟨a1_0, a1_1, l1⟩ = true := by unfold Rp.ok; rw [H1.out]; exact k1
      refine ⟨_, _, wrF_yes o0, wrF_yes o1, ⟨by rw [recB_length, H0.out], by rw [recB_length, H1.out]⟩, ?_⟩
      exact apart_same o0 o1 (by rw [recB_length, recB_length, H0.out, H1.out]; exact hn)
    replace hn := Lib.hid hn
    have bb := Below.refl w.heap.size w
    go_enter Tryd.func7, Tryd.ntmps7
    replace hT := hT.alloc (.cells #[.int .i64 a0_0, .int .i64 a0_1, .slice a0_2 len0_2 cap0_2] 25)
    replace s0 := s0.alloc (.cells #[.int .i64 a0_0, .int .i64 a0_1, .slice a0_2 len0_2 cap0_2] 25)
    replace s1 := s1.alloc (.cells #[.int .i64 a0_0, .int .i64 a0_1, .slice a0_2 len0_2 cap0_2] 25)
    replace bb := bb.alloc bb.size (.cells #[.int .i64 a0_0, .int .i64 a0_1, .slice a0_2 len0_2 cap0_2] 25)
    have Bv := Blk.new w #[.int .i64 a0_0, .int .i64 a0_1, .slice a0_2 len0_2 cap0_2] 25
    replace hT := hT.alloc (.cells #[.int .i64 a1_0, .int .i64 a1_1, .slice a1_2 len1_2 cap1_2] 25)
    replace s0 := s0.alloc (.cells #[.int .i64 a1_0, .int .i64 a1_1, .slice a1_2 len1_2 cap1_2] 25)
    replace s1 := s1.alloc (.cells #[.int .i64 a1_0, .int .i64 a1_1, .slice a1_2 len1_2 cap1_2] 25)
    replace Bv := Bv.alloc (.cells #[.int .i64 a1_0, .int .i64 a1_1, .slice a1_2 len1_2 cap1_2] 25)
    replace bb := bb.alloc bb.size (.cells #[.int .i64 a1_0, .int .i64 a1_1, .slice a1_2 len1_2 cap1_2] 25)
    have Bw := Blk.new (w.alloc (.cells #[.int .i64 a0_0, .int .i64 a0_1, .slice a0_2 len0_2 cap0_2] 25)) #[.int .i64 a1_0, .int .i64 a1_1, .slice a1_2 len1_2 cap1_2] 25
    simp only [World.size_alloc] at Bw
    go_wp2_with fail
    generalize ((w.alloc (.cells #[.int .i64 a0_0, .int .i64 a0_1, .slice a0_2 len0_2 cap0_2] 25)).alloc (.cells #[.int .i64 a1_0, .int .i64 a1_1, .slice a1_2 len1_2 cap1_2] 25)) = W1 at *
    have hC := awake5_any W1 hT
    refine hC.mono ?_
    clear hC
    rintro e w1 ⟨rfl, ba⟩
    replace hT := hT.below ba
    replace s0 := s0.below ba
    replace s1 := s1.below ba
    replace Bv := Bv.under ba
    replace Bw := Bw.under ba
    replace bb := bb.trans (ba.mono bb.size)
    clear ba
    obtain ⟨Bvq0, Bvq1, Bvq2, Bvr0, Bvr1, Bvr2⟩ := Bv.three
    have Bvl := Bv.lt
    obtain ⟨Bwq0, Bwq1, Bwq2, Bwr0, Bwr1, Bwr2⟩ := Bw.three
    have Bwl := Bw.lt
    go_wp2_with fail
    clear Bvq0 Bvq1 Bvq2 Bvr0 Bvr1 Bvr2
    clear Bwq0 Bwq1 Bwq2 Bwr0 Bwr1 Bwr2
    have hC := BytesErr.ok (rWrite_any a0_0 a0_1 a0_2 len0_2 cap0_2 l0 w1 hT s0) hr0.out
    refine hC.mono ?_
    clear hC
    rintro e w2 ⟨A1, n1, c1, rfl, x1, f1, b1⟩
    replace hT := hT.below b1
    replace s0 := s0.below b1
    replace s1 := s1.below b1
    replace Bv := Bv.under b1
    replace Bw := Bw.under b1
    replace bb := bb.trans (b1.mono bb.size)
    clear f1 b1
    obtain ⟨Bvq0, Bvq1, Bvq2, Bvr0, Bvr1, Bvr2⟩ := Bv.three
    have Bvl := Bv.lt
    obtain ⟨Bwq0, Bwq1, Bwq2, Bwr0, Bwr1, Bwr2⟩ := Bw.three
    have Bwl := Bw.lt
    go_wp2_with fail
    clear Bvq0 Bvq1 Bvq2 Bvr0 Bvr1 Bvr2
    clear Bwq0 Bwq1 Bwq2 Bwr0 Bwr1 Bwr2
    have hC := BytesErr.ok (rWrite_any a1_0 a1_1 a1_2 len1_2 cap1_2 l1 w2 hT s1) hr1.out
    refine hC.mono ?_
    clear hC
    rintro e w3 ⟨A2, n2, c2, rfl, x2, f2, b2⟩
    replace hT := hT.below b2
    replace s0 := s0.below b2
    replace s1 := s1.below b2
    replace Bv := Bv.under b2
    replace Bw := Bw.under b2
    replace x1 := x1.below b2
    replace bb := bb.trans (b2.mono bb.size)
    clear f2 b2
    obtain rfl : n1 = len0_2 + 20 := by rw [← x1.len8]; exact hl.out.1
    obtain rfl : n2 = len1_2 + 20 := by rw [← x2.len8]; exact hl.out.2
    have hcx := x1.cap
    have hbx := x1.big
    have hcy := x2.cap
    have hby := x2.big
    obtain ⟨Bvq0, Bvq1, Bvq2, Bvr0, Bvr1, Bvr2⟩ := Bv.three
    have Bvl := Bv.lt
    obtain ⟨Bwq0, Bwq1, Bwq2, Bwr0, Bwr1, Bwr2⟩ := Bw.three
    have Bwl := Bw.lt
    go_wp2_with fail
    clear Bvq0 Bvq1 Bvq2 Bvr0 Bvr1 Bvr2
    clear Bwq0 Bwq1 Bwq2 Bwr0 Bwr1 Bwr2
    have hC := recSame_any a0_0 a0_1 a0_2 len0_2 cap0_2 l0 a1_0 a1_1 a1_2 len1_2 cap1_2 l1 w3 s0 s1
    refine hC.mono ?_
    clear hC
    rintro e w4 ⟨rfl, b4⟩
    replace hT := hT.below b4
    replace s0 := s0.below b4
    replace s1 := s1.below b4
    replace Bv := Bv.under b4
    replace Bw := Bw.under b4
    replace x1 := x1.below b4
    replace x2 := x2.below b4
    replace bb := bb.trans (b4.mono bb.size)
    clear b4
    have xm := x1.upto (m := len1_2 + 20) (by omega)
    rw [← List.map_take] at xm
    have ym := x2.upto (m := len1_2 + 20) (by omega)
    rw [← List.map_take] at ym
    have hS2 := hS.out
    generalize sameR a0_0 a0_1 l0 a1_0 a1_1 l1 = same at *
    generalize L0.take (len1_2 + 20) = M0 at *
    generalize L1.take (len1_2 + 20) = M1 at *
    have hS3 := (bytes_beq M0 M1).trans hS2
    go_wp2_with fail
    refine wp_region_held_drew (S := fun w' => Below w4.heap.size w4 w') (by kernel_rfl) (Below.refl _ _).drew (fun hHeld => ?_)
    try dsimp only at hHeld
    have bd : Below w4.heap.size w4 w4.drew := (Below.refl w4.heap.size w4).drew
    generalize w4.drew = wd at *
    try simp only [Act.put, List.setIfInBounds_toArray, List.set_cons_zero, List.set_cons_succ]
    refine wpAnyH_take (i := 0) (v := ?_) (by simp only [List.getElem?_toArray, List.getElem?_cons_zero]; rfl) (by kernel_rfl) (by kernel_rfl) (by kernel_rfl) (by intro _ _ _ h; exact h) (Or.inl ⟨by rfl, ?_⟩) hHeld ?_
    rotate_left 1
    · intro wq hSw
      try dsimp only at hSw
      go_simp
      try (with_reducible rfl)
    try simp only [Act.put, List.setIfInBounds_toArray, List.set_cons_zero, List.set_cons_succ]
    refine wpAnyH_take (i := 1) (v := ?_) (by simp only [List.getElem?_toArray, List.getElem?_cons_succ, List.getElem?_cons_zero]; rfl) (by kernel_rfl) (by kernel_rfl) (by kernel_rfl) (by intro _ _ _ h; exact h) (Or.inl ⟨by rfl, ?_⟩) hHeld ?_
    rotate_left 1
    · intro wq hSw
      try dsimp only at hSw
      go_simp
      try (with_reducible rfl)
    try simp only [Act.put, List.setIfInBounds_toArray, List.set_cons_zero, List.set_cons_succ]
    refine wpAnyH_take (i := 2) (v := ?_) (by simp only [List.getElem?_toArray, List.getElem?_cons_succ, List.getElem?_cons_zero]; rfl) (by kernel_rfl) (by kernel_rfl) (by kernel_rfl) (by intro _ _ _ h; exact h) (Or.inl ⟨by rfl, ?_⟩) hHeld ?_
    rotate_left 1
    · intro wq hSw
      try dsimp only at hSw
      go_simp
      try (with_reducible rfl)
    try simp only [Act.put, List.setIfInBounds_toArray, List.set_cons_zero, List.set_cons_succ]
    refine wpAnyH_take (i := 3) (v := ?_) (by simp only [List.getElem?_toArray, List.getElem?_cons_succ, List.getElem?_cons_zero]; rfl) (by kernel_rfl) (by kernel_rfl) (by kernel_rfl) (by intro _ _ _ h; exact h) (Or.inl ⟨by rfl, ?_⟩) hHeld ?_
    rotate_left 1
    · intro wq hSw
      try dsimp only at hSw
      go_simp
      try (with_reducible rfl)
    try simp only [Act.put, List.setIfInBounds_toArray, List.set_cons_zero, List.set_cons_succ]
    refine wpAnyH_take (i := 4) (v := ?_) (by simp only [List.getElem?_toArray, List.getElem?_cons_succ, List.getElem?_cons_zero]; rfl) (by kernel_rfl) (by kernel_rfl) (by kernel_rfl) (by intro _ _ _ h; exact h) (Or.inl ⟨by rfl, ?_⟩) hHeld ?_
    rotate_left 1
    · intro wq hSw
      try dsimp only at hSw
      have hh : 0 ≤ (len1_2 : Int) + 20 ∧ (len1_2 : Int) + 20 ≤ (c1 : Int) := ⟨by omega, by omega⟩
      have ht : ((len1_2 : Int) + 20).toNat = len1_2 + 20 := by omega
      go_simp
      try (with_reducible rfl)
    try simp only [Act.put, List.setIfInBounds_toArray, List.set_cons_zero, List.set_cons_succ]
    refine wpAnyH_take (i := 5) (v := ?_) (by simp only [List.getElem?_toArray, List.getElem?_cons_succ, List.getElem?_cons_zero]; rfl) (by kernel_rfl) (by kernel_rfl) (by kernel_rfl) (by intro _ _ _ h; exact h) (Or.inl ⟨by rfl, ?_⟩) hHeld ?_
    rotate_left 1
    · intro wq hSw
      try dsimp only at hSw
      have q8 := str_of (xm.below hSw)
      go_simp
      try (with_reducible rfl)
    try simp only [Act.put, List.setIfInBounds_toArray, List.set_cons_zero, List.set_cons_succ]
    refine wpAnyH_take (i := 6) (v := ?_) (by simp only [List.getElem?_toArray, List.getElem?_cons_succ, List.getElem?_cons_zero]; rfl) (by kernel_rfl) (by kernel_rfl) (by kernel_rfl) (by intro _ _ _ h; exact h) (Or.inl ⟨by rfl, ?_⟩) hHeld ?_
    rotate_left 1
    · intro wq hSw
      try dsimp only at hSw
      go_simp
      try (with_reducible rfl)
    try simp only [Act.put, List.setIfInBounds_toArray, List.set_cons_zero, List.set_cons_succ]
    refine wpAnyH_take (i := 7) (v := ?_) (by simp only [List.getElem?_toArray, List.getElem?_cons_succ, List.getElem?_cons_zero]; rfl) (by kernel_rfl) (by kernel_rfl) (by kernel_rfl) (by intro _ _ _ h; exact h) (Or.inl ⟨by rfl, ?_⟩) hHeld ?_
    rotate_left 1
    · intro wq hSw
      try dsimp only at hSw
      go_simp
      try (with_reducible rfl)
    try simp only [Act.put, List.setIfInBounds_toArray, List.set_cons_zero, List.set_cons_succ]
    refine wpAnyH_take (i := 8) (v := ?_) (by simp only [List.getElem?_toArray, List.getElem?_cons_succ, List.getElem?_cons_zero]; rfl) (by kernel_rfl) (by kernel_rfl) (by kernel_rfl) (by intro _ _ _ h; exact h) (Or.inl ⟨by rfl, ?_⟩) hHeld ?_
    rotate_left 1
    · intro wq hSw
      try dsimp only at hSw
      have hh : 0 ≤ (len1_2 : Int) + 20 ∧ (len1_2 : Int) + 20 ≤ (c2 : Int) := ⟨by omega, by omega⟩
      have ht : ((len1_2 : Int) + 20).toNat = len1_2 + 20 := by omega
      go_simp
      try (with_reducible rfl)
    try simp only [Act.put, List.setIfInBounds_toArray, List.set_cons_zero, List.set_cons_succ]
    refine wpAnyH_take (i := 9) (v := ?_) (by simp only [List.getElem?_toArray, List.getElem?_cons_succ, List.getElem?_cons_zero]; rfl) (by kernel_rfl) (by kernel_rfl) (by kernel_rfl) (by intro _ _ _ h; exact h) (Or.inl ⟨by rfl, ?_⟩) hHeld ?_
    rotate_left 1
    · intro wq hSw
      try dsimp only at hSw
      have q8 := str_of (ym.below hSw)
      go_simp
      try (with_reducible rfl)
    try simp only [Act.put, List.setIfInBounds_toArray, List.set_cons_zero, List.set_cons_succ]
    refine wpAnyH_take (i := 10) (v := ?_) (by simp only [List.getElem?_toArray, List.getElem?_cons_succ, List.getElem?_cons_zero]; rfl) (by kernel_rfl) (by kernel_rfl) (by kernel_rfl) (by intro _ _ _ h; exact h) (Or.inl ⟨by rfl, ?_⟩) hHeld ?_
    rotate_left 1
    · intro wq hSw
      try dsimp only at hSw
      go_simp
      try (with_reducible rfl)
    try simp only [Act.put, List.setIfInBounds_toArray, List.set_cons_zero, List.set_cons_succ]
    refine wpAnyH_take (i := 11) (v := ?_) (by simp only [List.getElem?_toArray, List.getElem?_cons_succ, List.getElem?_cons_zero]; rfl) (by kernel_rfl) (by kernel_rfl) (by kernel_rfl) (by intro _ _ _ h; exact h) (Or.inl ⟨by rfl, ?_⟩) hHeld ?_
    rotate_left 1
    · intro wq hSw
      try dsimp only at hSw
      go_simp
      try (with_reducible rfl)
    try simp only [Act.put, List.setIfInBounds_toArray, List.set_cons_zero, List.set_cons_succ]
    refine wpAnyH_take (i := 12) (v := ?_) (by simp only [List.getElem?_toArray, List.getElem?_cons_succ, List.getElem?_cons_zero]; rfl) (by kernel_rfl) (by kernel_rfl) (by kernel_rfl) (by intro _ _ _ h; exact h) (Or.inl ⟨by rfl, ?_⟩) hHeld ?_
    rotate_left 1
    · intro wq hSw
      try dsimp only at hSw
      go_simp
      try (with_reducible rfl)
    try simp only [Act.put, List.setIfInBounds_toArray, List.set_cons_zero, List.set_cons_succ]
    refine wpAnyH_take (i := 13) (v := ?_) (by simp only [List.getElem?_toArray, List.getElem?_cons_succ, List.getElem?_cons_zero]; rfl) (by kernel_rfl) (by kernel_rfl) (by kernel_rfl) (by intro _ _ _ h; exact h) (Or.inl ⟨by rfl, ?_⟩) hHeld ?_
    rotate_left 1
    · intro wq hSw
      try dsimp only at hSw
      go_simp
      try (with_reducible rfl)
    try simp only [Act.put, List.setIfInBounds_toArray, List.set_cons_zero, List.set_cons_succ]
    refine wpAnyH_take (i := 14) (v := ?_) (by simp only [List.getElem?_toArray, List.getElem?_cons_succ, List.getElem?_cons_zero]; rfl) (by kernel_rfl) (by kernel_rfl) (by kernel_rfl) (by intro _ _ _ h; exact h) (Or.inl ⟨by rfl, ?_⟩) hHeld ?_
    rotate_left 1
    · intro wq hSw
      try dsimp only at hSw
      go_simp
      try (with_reducible rfl)
    try simp only [Act.put, List.setIfInBounds_toArray, List.set_cons_zero, List.set_cons_succ]
    refine wpAnyH_done (by kernel_rfl) ?_ _
    replace bb := bb.trans (bd.mono bb.size)
    go_wp2
    go_ret
    exact ⟨rfl, bb⟩
end Go.Proofs.YtjhpjhgofmlecaaDoor
