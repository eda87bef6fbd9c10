/-
  ZoneTells: the walk (written by gen_zonetells.py).
-/
import Derived.Test.YtepknniflkmjnaaZoneRef3
namespace Go.Proofs.Ytepknniflkmjnaa
open Go.RowKit Go.Wag
set_option linter.unusedVariables false

theorem same_self (st rs la : Int) (l : List UInt8) : sameF st rs la l st rs la l = true := by simp [sameF]

set_option maxRecDepth 100000 in
set_option maxHeartbeats 4000000 in
theorem ZoneTells_core (st rs la size : Int) (A : Option Addr) (n c : Nat) (l : List UInt8) (A2 : Option Addr) (n2 c2 : Nat) (l2 : List UInt8) (keep : Int) (hk0 : -9223372036854775808 ≤ keep) (hk1 : keep < 9223372036854775808) (w : World)
    (s0 : Sl w A n c (l.map v8)) (s2 : Sl w A2 n2 c2 (l2.map v8)) :
    Calls Try.prog 4 #[.agg #[.int .i64 st, .int .i64 rs, .slice A n c, .int .i64 la], .int .i64 size, .slice A2 n2 c2, .int .i64 keep] w (AwakePost w) := by
  obtain ⟨i0, hi, hz0, hz1, hz2⟩ := info_parts i5
  have hl0 : Hid (l.length = n) := s0.len8
  have hl2 : Hid (l2.length = n2) := s2.len8
  have bb := Below.refl w.heap.size w
  go_enter Try.func4, Try.ntmps4
  replace s0 := s0.alloc (.cells #[.int .i64 st, .int .i64 rs, .slice A n c, .int .i64 la] 25)
  replace s2 := s2.alloc (.cells #[.int .i64 st, .int .i64 rs, .slice A n c, .int .i64 la] 25)
  replace bb := bb.alloc bb.size (.cells #[.int .i64 st, .int .i64 rs, .slice A n c, .int .i64 la] 25)
  have Bz := Blk.new w #[.int .i64 st, .int .i64 rs, .slice A n c, .int .i64 la] 25
  go_wp2_with fail
  generalize (w.alloc (.cells #[.int .i64 st, .int .i64 rs, .slice A n c, .int .i64 la] 25)) = W1 at *
  have hC := awake3_any W1
  refine hC.mono ?_
  clear hC
  rintro e w1 ⟨rfl, ba⟩
  replace s0 := s0.below ba
  replace s2 := s2.below ba
  replace Bz := Bz.under ba
  replace bb := bb.trans (ba.mono bb.size)
  by_cases hbad : 300 < (n : Int) ∨ 300 < (n2 : Int)
  · obtain ⟨z0, z1, z2, z3, _⟩ := Bz.four
    go_wp2_with fail
    all_goals first
      | (go_ret; exact ⟨rfl, bb⟩)
      | (exfalso; go_tidy; simp_all; omega)
  have hb1 : (n : Int) ≤ 300 ∧ (n2 : Int) ≤ 300 := by omega
  clear hbad
  obtain ⟨h1, h3⟩ := hb1
  obtain ⟨erp, herp⟩ : ∃ x, Hid (appErrF st rs n la size n2 = x) := ⟨_, rfl⟩
  obtain ⟨stp, hstp⟩ : ∃ x, Hid (appSt st rs n la size n2 = x) := ⟨_, rfl⟩
  obtain ⟨lp, hlp⟩ : ∃ x, Hid (appDa st rs n la size n2 l l2 = x) := ⟨_, rfl⟩
  obtain ⟨mp, hmp⟩ : ∃ x, Hid (lp.length = x) := ⟨_, rfl⟩
  obtain ⟨ert, hert⟩ : ∃ x, Hid (resEr st rs = x) := ⟨_, rfl⟩
  obtain ⟨xr, hxr⟩ : ∃ x, Hid (resSt st rs = x) := ⟨_, rfl⟩
  obtain ⟨rr, hrr⟩ : ∃ x, Hid (resRs st rs = x) := ⟨_, rfl⟩
  obtain ⟨lar, hlar⟩ : ∃ x, Hid (resLa st rs la = x) := ⟨_, rfl⟩
  obtain ⟨lr, hlr⟩ : ∃ x, Hid (resDa st rs l = x) := ⟨_, rfl⟩
  obtain ⟨mr, hmr⟩ : ∃ x, Hid (lr.length = x) := ⟨_, rfl⟩
  obtain ⟨stf, hstf⟩ : ∃ x, Hid (finSt st = x) := ⟨_, rfl⟩
  obtain ⟨erf, herf⟩ : ∃ x, Hid (finEr st = x) := ⟨_, rfl⟩
  obtain ⟨stc, hstc⟩ : ∃ x, Hid (cloSt st = x) := ⟨_, rfl⟩
  obtain ⟨erc, herc⟩ : ∃ x, Hid (cloEr st = x) := ⟨_, rfl⟩
  obtain ⟨stk, hstk⟩ : ∃ x, Hid (crSt st rs n la size keep = x) := ⟨_, rfl⟩
  obtain ⟨lk, hlk⟩ : ∃ x, Hid (crDa st rs n la size keep l = x) := ⟨_, rfl⟩
  obtain ⟨lak, hlak⟩ : ∃ x, Hid (crLa st rs n la size keep = x) := ⟨_, rfl⟩
  obtain ⟨mk, hmk⟩ : ∃ x, Hid (lk.length = x) := ⟨_, rfl⟩
  obtain ⟨ck, hck⟩ : ∃ x, Hid (chkF st rs n la size = x) := ⟨_, rfl⟩
  obtain ⟨ro, hro⟩ : ∃ x, Hid (roomF st rs n la size = x) := ⟨_, rfl⟩
  obtain ⟨Bzq0, Bzq1, Bzq2, Bzq3, Bzr0, Bzr1, Bzr2, Bzr3⟩ := Bz.four
  have Bzl := Bz.lt
  go_wp2_with fail
  clear Bzq0 Bzq1 Bzq2 Bzq3 Bzr0 Bzr1 Bzr2 Bzr3
  have hC := zAppend_at st rs la size A2 n2 c2 l2 A n c l stp erp lp mp w1 s0 s2 (by omega) hstp.out hlp.out herp.out hmp.out
  refine hC.mono ?_
  clear hC
  rintro e w3 ⟨Ap, cp, rfl, Np, b3⟩
  replace s0 := s0.below b3
  replace s2 := s2.below b3
  replace Bz := Bz.under b3
  replace bb := bb.trans (b3.mono bb.size)
  have sp := Np.sl
  obtain ⟨Bzq0, Bzq1, Bzq2, Bzq3, Bzr0, Bzr1, Bzr2, Bzr3⟩ := Bz.four
  have Bzl := Bz.lt
  replace s0 := s0.alloc (.cells #[.int .i64 stp, .int .i64 rs, .slice Ap mp cp, .int .i64 la] 25)
  replace s2 := s2.alloc (.cells #[.int .i64 stp, .int .i64 rs, .slice Ap mp cp, .int .i64 la] 25)
  replace Bz := Bz.alloc (.cells #[.int .i64 stp, .int .i64 rs, .slice Ap mp cp, .int .i64 la] 25)
  replace sp := sp.alloc (.cells #[.int .i64 stp, .int .i64 rs, .slice Ap mp cp, .int .i64 la] 25)
  replace bb := bb.alloc bb.size (.cells #[.int .i64 stp, .int .i64 rs, .slice Ap mp cp, .int .i64 la] 25)
  have Bp := Blk.new w3 #[.int .i64 stp, .int .i64 rs, .slice Ap mp cp, .int .i64 la] 25
  go_wp2_with fail
  clear Bzq0 Bzq1 Bzq2 Bzq3 Bzr0 Bzr1 Bzr2 Bzr3
  generalize (w3.alloc (.cells #[.int .i64 stp, .int .i64 rs, .slice Ap mp cp, .int .i64 la] 25)) = W2 at *
  have hC := refAppend3_at st rs la size A2 n2 c2 l2 A n c l stp erp lp mp W2 s0 s2 (by omega) hstp.out hlp.out herp.out hmp.out
  refine hC.mono ?_
  clear hC
  rintro e w4 ⟨Apb, cpb, rfl, Npb, b4⟩
  replace s0 := s0.below b4
  replace s2 := s2.below b4
  replace Bz := Bz.under b4
  replace sp := sp.below b4
  replace Bp := Bp.under b4
  replace bb := bb.trans (b4.mono bb.size)
  have spb := Npb.sl
  obtain ⟨Bzq0, Bzq1, Bzq2, Bzq3, Bzr0, Bzr1, Bzr2, Bzr3⟩ := Bz.four
  have Bzl := Bz.lt
  replace s0 := s0.alloc (.cells #[.int .i64 stp, .int .i64 rs, .slice Apb mp cpb, .int .i64 la] 25)
  replace s2 := s2.alloc (.cells #[.int .i64 stp, .int .i64 rs, .slice Apb mp cpb, .int .i64 la] 25)
  replace Bz := Bz.alloc (.cells #[.int .i64 stp, .int .i64 rs, .slice Apb mp cpb, .int .i64 la] 25)
  replace sp := sp.alloc (.cells #[.int .i64 stp, .int .i64 rs, .slice Apb mp cpb, .int .i64 la] 25)
  replace Bp := Bp.alloc (.cells #[.int .i64 stp, .int .i64 rs, .slice Apb mp cpb, .int .i64 la] 25)
  replace spb := spb.alloc (.cells #[.int .i64 stp, .int .i64 rs, .slice Apb mp cpb, .int .i64 la] 25)
  replace bb := bb.alloc bb.size (.cells #[.int .i64 stp, .int .i64 rs, .slice Apb mp cpb, .int .i64 la] 25)
  have Bpb := Blk.new w4 #[.int .i64 stp, .int .i64 rs, .slice Apb mp cpb, .int .i64 la] 25
  go_wp2_with fail
  clear Bzq0 Bzq1 Bzq2 Bzq3 Bzr0 Bzr1 Bzr2 Bzr3
  generalize (w4.alloc (.cells #[.int .i64 stp, .int .i64 rs, .slice Apb mp cpb, .int .i64 la] 25)) = W3 at *
  have hC := zReset_at st rs la A n c l xr rr lar ert lr mr W3 s0 (by omega) hxr.out hrr.out hlr.out hlar.out hert.out hmr.out
  refine hC.mono ?_
  clear hC
  rintro e w5 ⟨Ar, cr, rfl, Nr, b5⟩
  replace s0 := s0.below b5
  replace s2 := s2.below b5
  replace Bz := Bz.under b5
  replace sp := sp.below b5
  replace Bp := Bp.under b5
  replace spb := spb.below b5
  replace Bpb := Bpb.under b5
  replace bb := bb.trans (b5.mono bb.size)
  have sr := Nr.sl
  obtain ⟨Bzq0, Bzq1, Bzq2, Bzq3, Bzr0, Bzr1, Bzr2, Bzr3⟩ := Bz.four
  have Bzl := Bz.lt
  replace s0 := s0.alloc (.cells #[.int .i64 xr, .int .i64 rr, .slice Ar mr cr, .int .i64 lar] 25)
  replace s2 := s2.alloc (.cells #[.int .i64 xr, .int .i64 rr, .slice Ar mr cr, .int .i64 lar] 25)
  replace Bz := Bz.alloc (.cells #[.int .i64 xr, .int .i64 rr, .slice Ar mr cr, .int .i64 lar] 25)
  replace sp := sp.alloc (.cells #[.int .i64 xr, .int .i64 rr, .slice Ar mr cr, .int .i64 lar] 25)
  replace Bp := Bp.alloc (.cells #[.int .i64 xr, .int .i64 rr, .slice Ar mr cr, .int .i64 lar] 25)
  replace spb := spb.alloc (.cells #[.int .i64 xr, .int .i64 rr, .slice Ar mr cr, .int .i64 lar] 25)
  replace Bpb := Bpb.alloc (.cells #[.int .i64 xr, .int .i64 rr, .slice Ar mr cr, .int .i64 lar] 25)
  replace sr := sr.alloc (.cells #[.int .i64 xr, .int .i64 rr, .slice Ar mr cr, .int .i64 lar] 25)
  replace bb := bb.alloc bb.size (.cells #[.int .i64 xr, .int .i64 rr, .slice Ar mr cr, .int .i64 lar] 25)
  have Br := Blk.new w5 #[.int .i64 xr, .int .i64 rr, .slice Ar mr cr, .int .i64 lar] 25
  go_wp2_with fail
  clear Bzq0 Bzq1 Bzq2 Bzq3 Bzr0 Bzr1 Bzr2 Bzr3
  generalize (w5.alloc (.cells #[.int .i64 xr, .int .i64 rr, .slice Ar mr cr, .int .i64 lar] 25)) = W4 at *
  have hC := refReset3_at st rs la A n c l xr rr lar ert lr mr W4 s0 (by omega) hxr.out hrr.out hlr.out hlar.out hert.out hmr.out
  refine hC.mono ?_
  clear hC
  rintro e w6 ⟨Arb, crb, rfl, Nrb, b6⟩
  replace s0 := s0.below b6
  replace s2 := s2.below b6
  replace Bz := Bz.under b6
  replace sp := sp.below b6
  replace Bp := Bp.under b6
  replace spb := spb.below b6
  replace Bpb := Bpb.under b6
  replace sr := sr.below b6
  replace Br := Br.under b6
  replace bb := bb.trans (b6.mono bb.size)
  have srb := Nrb.sl
  obtain ⟨Bzq0, Bzq1, Bzq2, Bzq3, Bzr0, Bzr1, Bzr2, Bzr3⟩ := Bz.four
  have Bzl := Bz.lt
  replace s0 := s0.alloc (.cells #[.int .i64 xr, .int .i64 rr, .slice Arb mr crb, .int .i64 lar] 25)
  replace s2 := s2.alloc (.cells #[.int .i64 xr, .int .i64 rr, .slice Arb mr crb, .int .i64 lar] 25)
  replace Bz := Bz.alloc (.cells #[.int .i64 xr, .int .i64 rr, .slice Arb mr crb, .int .i64 lar] 25)
  replace sp := sp.alloc (.cells #[.int .i64 xr, .int .i64 rr, .slice Arb mr crb, .int .i64 lar] 25)
  replace Bp := Bp.alloc (.cells #[.int .i64 xr, .int .i64 rr, .slice Arb mr crb, .int .i64 lar] 25)
  replace spb := spb.alloc (.cells #[.int .i64 xr, .int .i64 rr, .slice Arb mr crb, .int .i64 lar] 25)
  replace Bpb := Bpb.alloc (.cells #[.int .i64 xr, .int .i64 rr, .slice Arb mr crb, .int .i64 lar] 25)
  replace sr := sr.alloc (.cells #[.int .i64 xr, .int .i64 rr, .slice Arb mr crb, .int .i64 lar] 25)
  replace Br := Br.alloc (.cells #[.int .i64 xr, .int .i64 rr, .slice Arb mr crb, .int .i64 lar] 25)
  replace srb := srb.alloc (.cells #[.int .i64 xr, .int .i64 rr, .slice Arb mr crb, .int .i64 lar] 25)
  replace bb := bb.alloc bb.size (.cells #[.int .i64 xr, .int .i64 rr, .slice Arb mr crb, .int .i64 lar] 25)
  have Brb := Blk.new w6 #[.int .i64 xr, .int .i64 rr, .slice Arb mr crb, .int .i64 lar] 25
  go_wp2_with fail
  clear Bzq0 Bzq1 Bzq2 Bzq3 Bzr0 Bzr1 Bzr2 Bzr3
  generalize (w6.alloc (.cells #[.int .i64 xr, .int .i64 rr, .slice Arb mr crb, .int .i64 lar] 25)) = W5 at *
  have hC := zFinish_at st rs la A n c l stf erf W5 s0 (by omega) hstf.out herf.out
  refine hC.mono ?_
  clear hC
  rintro e w7 ⟨Af, cf, rfl, Nf, b7⟩
  replace s0 := s0.below b7
  replace s2 := s2.below b7
  replace Bz := Bz.under b7
  replace sp := sp.below b7
  replace Bp := Bp.under b7
  replace spb := spb.below b7
  replace Bpb := Bpb.under b7
  replace sr := sr.below b7
  replace Br := Br.under b7
  replace srb := srb.below b7
  replace Brb := Brb.under b7
  replace bb := bb.trans (b7.mono bb.size)
  have sf := Nf.sl
  obtain ⟨Bzq0, Bzq1, Bzq2, Bzq3, Bzr0, Bzr1, Bzr2, Bzr3⟩ := Bz.four
  have Bzl := Bz.lt
  replace s0 := s0.alloc (.cells #[.int .i64 stf, .int .i64 rs, .slice Af n cf, .int .i64 la] 25)
  replace s2 := s2.alloc (.cells #[.int .i64 stf, .int .i64 rs, .slice Af n cf, .int .i64 la] 25)
  replace Bz := Bz.alloc (.cells #[.int .i64 stf, .int .i64 rs, .slice Af n cf, .int .i64 la] 25)
  replace sp := sp.alloc (.cells #[.int .i64 stf, .int .i64 rs, .slice Af n cf, .int .i64 la] 25)
  replace Bp := Bp.alloc (.cells #[.int .i64 stf, .int .i64 rs, .slice Af n cf, .int .i64 la] 25)
  replace spb := spb.alloc (.cells #[.int .i64 stf, .int .i64 rs, .slice Af n cf, .int .i64 la] 25)
  replace Bpb := Bpb.alloc (.cells #[.int .i64 stf, .int .i64 rs, .slice Af n cf, .int .i64 la] 25)
  replace sr := sr.alloc (.cells #[.int .i64 stf, .int .i64 rs, .slice Af n cf, .int .i64 la] 25)
  replace Br := Br.alloc (.cells #[.int .i64 stf, .int .i64 rs, .slice Af n cf, .int .i64 la] 25)
  replace srb := srb.alloc (.cells #[.int .i64 stf, .int .i64 rs, .slice Af n cf, .int .i64 la] 25)
  replace Brb := Brb.alloc (.cells #[.int .i64 stf, .int .i64 rs, .slice Af n cf, .int .i64 la] 25)
  replace sf := sf.alloc (.cells #[.int .i64 stf, .int .i64 rs, .slice Af n cf, .int .i64 la] 25)
  replace bb := bb.alloc bb.size (.cells #[.int .i64 stf, .int .i64 rs, .slice Af n cf, .int .i64 la] 25)
  have Bf := Blk.new w7 #[.int .i64 stf, .int .i64 rs, .slice Af n cf, .int .i64 la] 25
  go_wp2_with fail
  clear Bzq0 Bzq1 Bzq2 Bzq3 Bzr0 Bzr1 Bzr2 Bzr3
  generalize (w7.alloc (.cells #[.int .i64 stf, .int .i64 rs, .slice Af n cf, .int .i64 la] 25)) = W6 at *
  have hC := refFinish3_at st rs la A n c l stf erf W6 s0 (by omega) hstf.out herf.out
  refine hC.mono ?_
  clear hC
  rintro e w8 ⟨Afb, cfb, rfl, Nfb, b8⟩
  replace s0 := s0.below b8
  replace s2 := s2.below b8
  replace Bz := Bz.under b8
  replace sp := sp.below b8
  replace Bp := Bp.under b8
  replace spb := spb.below b8
  replace Bpb := Bpb.under b8
  replace sr := sr.below b8
  replace Br := Br.under b8
  replace srb := srb.below b8
  replace Brb := Brb.under b8
  replace sf := sf.below b8
  replace Bf := Bf.under b8
  replace bb := bb.trans (b8.mono bb.size)
  have sfb := Nfb.sl
  obtain ⟨Bzq0, Bzq1, Bzq2, Bzq3, Bzr0, Bzr1, Bzr2, Bzr3⟩ := Bz.four
  have Bzl := Bz.lt
  replace s0 := s0.alloc (.cells #[.int .i64 stf, .int .i64 rs, .slice Afb n cfb, .int .i64 la] 25)
  replace s2 := s2.alloc (.cells #[.int .i64 stf, .int .i64 rs, .slice Afb n cfb, .int .i64 la] 25)
  replace Bz := Bz.alloc (.cells #[.int .i64 stf, .int .i64 rs, .slice Afb n cfb, .int .i64 la] 25)
  replace sp := sp.alloc (.cells #[.int .i64 stf, .int .i64 rs, .slice Afb n cfb, .int .i64 la] 25)
  replace Bp := Bp.alloc (.cells #[.int .i64 stf, .int .i64 rs, .slice Afb n cfb, .int .i64 la] 25)
  replace spb := spb.alloc (.cells #[.int .i64 stf, .int .i64 rs, .slice Afb n cfb, .int .i64 la] 25)
  replace Bpb := Bpb.alloc (.cells #[.int .i64 stf, .int .i64 rs, .slice Afb n cfb, .int .i64 la] 25)
  replace sr := sr.alloc (.cells #[.int .i64 stf, .int .i64 rs, .slice Afb n cfb, .int .i64 la] 25)
  replace Br := Br.alloc (.cells #[.int .i64 stf, .int .i64 rs, .slice Afb n cfb, .int .i64 la] 25)
  replace srb := srb.alloc (.cells #[.int .i64 stf, .int .i64 rs, .slice Afb n cfb, .int .i64 la] 25)
  replace Brb := Brb.alloc (.cells #[.int .i64 stf, .int .i64 rs, .slice Afb n cfb, .int .i64 la] 25)
  replace sf := sf.alloc (.cells #[.int .i64 stf, .int .i64 rs, .slice Afb n cfb, .int .i64 la] 25)
  replace Bf := Bf.alloc (.cells #[.int .i64 stf, .int .i64 rs, .slice Afb n cfb, .int .i64 la] 25)
  replace sfb := sfb.alloc (.cells #[.int .i64 stf, .int .i64 rs, .slice Afb n cfb, .int .i64 la] 25)
  replace bb := bb.alloc bb.size (.cells #[.int .i64 stf, .int .i64 rs, .slice Afb n cfb, .int .i64 la] 25)
  have Bfb := Blk.new w8 #[.int .i64 stf, .int .i64 rs, .slice Afb n cfb, .int .i64 la] 25
  go_wp2_with fail
  clear Bzq0 Bzq1 Bzq2 Bzq3 Bzr0 Bzr1 Bzr2 Bzr3
  generalize (w8.alloc (.cells #[.int .i64 stf, .int .i64 rs, .slice Afb n cfb, .int .i64 la] 25)) = W7 at *
  have hC := zClose_at st rs la A n c l stc erc W7 s0 (by omega) hstc.out herc.out
  refine hC.mono ?_
  clear hC
  rintro e w9 ⟨Av, cv, rfl, Nv, b9⟩
  replace s0 := s0.below b9
  replace s2 := s2.below b9
  replace Bz := Bz.under b9
  replace sp := sp.below b9
  replace Bp := Bp.under b9
  replace spb := spb.below b9
  replace Bpb := Bpb.under b9
  replace sr := sr.below b9
  replace Br := Br.under b9
  replace srb := srb.below b9
  replace Brb := Brb.under b9
  replace sf := sf.below b9
  replace Bf := Bf.under b9
  replace sfb := sfb.below b9
  replace Bfb := Bfb.under b9
  replace bb := bb.trans (b9.mono bb.size)
  have sv := Nv.sl
  obtain ⟨Bzq0, Bzq1, Bzq2, Bzq3, Bzr0, Bzr1, Bzr2, Bzr3⟩ := Bz.four
  have Bzl := Bz.lt
  replace s0 := s0.alloc (.cells #[.int .i64 stc, .int .i64 rs, .slice Av n cv, .int .i64 la] 25)
  replace s2 := s2.alloc (.cells #[.int .i64 stc, .int .i64 rs, .slice Av n cv, .int .i64 la] 25)
  replace Bz := Bz.alloc (.cells #[.int .i64 stc, .int .i64 rs, .slice Av n cv, .int .i64 la] 25)
  replace sp := sp.alloc (.cells #[.int .i64 stc, .int .i64 rs, .slice Av n cv, .int .i64 la] 25)
  replace Bp := Bp.alloc (.cells #[.int .i64 stc, .int .i64 rs, .slice Av n cv, .int .i64 la] 25)
  replace spb := spb.alloc (.cells #[.int .i64 stc, .int .i64 rs, .slice Av n cv, .int .i64 la] 25)
  replace Bpb := Bpb.alloc (.cells #[.int .i64 stc, .int .i64 rs, .slice Av n cv, .int .i64 la] 25)
  replace sr := sr.alloc (.cells #[.int .i64 stc, .int .i64 rs, .slice Av n cv, .int .i64 la] 25)
  replace Br := Br.alloc (.cells #[.int .i64 stc, .int .i64 rs, .slice Av n cv, .int .i64 la] 25)
  replace srb := srb.alloc (.cells #[.int .i64 stc, .int .i64 rs, .slice Av n cv, .int .i64 la] 25)
  replace Brb := Brb.alloc (.cells #[.int .i64 stc, .int .i64 rs, .slice Av n cv, .int .i64 la] 25)
  replace sf := sf.alloc (.cells #[.int .i64 stc, .int .i64 rs, .slice Av n cv, .int .i64 la] 25)
  replace Bf := Bf.alloc (.cells #[.int .i64 stc, .int .i64 rs, .slice Av n cv, .int .i64 la] 25)
  replace sfb := sfb.alloc (.cells #[.int .i64 stc, .int .i64 rs, .slice Av n cv, .int .i64 la] 25)
  replace Bfb := Bfb.alloc (.cells #[.int .i64 stc, .int .i64 rs, .slice Av n cv, .int .i64 la] 25)
  replace sv := sv.alloc (.cells #[.int .i64 stc, .int .i64 rs, .slice Av n cv, .int .i64 la] 25)
  replace bb := bb.alloc bb.size (.cells #[.int .i64 stc, .int .i64 rs, .slice Av n cv, .int .i64 la] 25)
  have Bv := Blk.new w9 #[.int .i64 stc, .int .i64 rs, .slice Av n cv, .int .i64 la] 25
  go_wp2_with fail
  clear Bzq0 Bzq1 Bzq2 Bzq3 Bzr0 Bzr1 Bzr2 Bzr3
  generalize (w9.alloc (.cells #[.int .i64 stc, .int .i64 rs, .slice Av n cv, .int .i64 la] 25)) = W8 at *
  have hC := refClose3_at st rs la A n c l stc erc W8 s0 (by omega) hstc.out herc.out
  refine hC.mono ?_
  clear hC
  rintro e w10 ⟨Avb, cvb, rfl, Nvb, b10⟩
  replace s0 := s0.below b10
  replace s2 := s2.below b10
  replace Bz := Bz.under b10
  replace sp := sp.below b10
  replace Bp := Bp.under b10
  replace spb := spb.below b10
  replace Bpb := Bpb.under b10
  replace sr := sr.below b10
  replace Br := Br.under b10
  replace srb := srb.below b10
  replace Brb := Brb.under b10
  replace sf := sf.below b10
  replace Bf := Bf.under b10
  replace sfb := sfb.below b10
  replace Bfb := Bfb.under b10
  replace sv := sv.below b10
  replace Bv := Bv.under b10
  replace bb := bb.trans (b10.mono bb.size)
  have svb := Nvb.sl
  obtain ⟨Bzq0, Bzq1, Bzq2, Bzq3, Bzr0, Bzr1, Bzr2, Bzr3⟩ := Bz.four
  have Bzl := Bz.lt
  replace s0 := s0.alloc (.cells #[.int .i64 stc, .int .i64 rs, .slice Avb n cvb, .int .i64 la] 25)
  replace s2 := s2.alloc (.cells #[.int .i64 stc, .int .i64 rs, .slice Avb n cvb, .int .i64 la] 25)
  replace Bz := Bz.alloc (.cells #[.int .i64 stc, .int .i64 rs, .slice Avb n cvb, .int .i64 la] 25)
  replace sp := sp.alloc (.cells #[.int .i64 stc, .int .i64 rs, .slice Avb n cvb, .int .i64 la] 25)
  replace Bp := Bp.alloc (.cells #[.int .i64 stc, .int .i64 rs, .slice Avb n cvb, .int .i64 la] 25)
  replace spb := spb.alloc (.cells #[.int .i64 stc, .int .i64 rs, .slice Avb n cvb, .int .i64 la] 25)
  replace Bpb := Bpb.alloc (.cells #[.int .i64 stc, .int .i64 rs, .slice Avb n cvb, .int .i64 la] 25)
  replace sr := sr.alloc (.cells #[.int .i64 stc, .int .i64 rs, .slice Avb n cvb, .int .i64 la] 25)
  replace Br := Br.alloc (.cells #[.int .i64 stc, .int .i64 rs, .slice Avb n cvb, .int .i64 la] 25)
  replace srb := srb.alloc (.cells #[.int .i64 stc, .int .i64 rs, .slice Avb n cvb, .int .i64 la] 25)
  replace Brb := Brb.alloc (.cells #[.int .i64 stc, .int .i64 rs, .slice Avb n cvb, .int .i64 la] 25)
  replace sf := sf.alloc (.cells #[.int .i64 stc, .int .i64 rs, .slice Avb n cvb, .int .i64 la] 25)
  replace Bf := Bf.alloc (.cells #[.int .i64 stc, .int .i64 rs, .slice Avb n cvb, .int .i64 la] 25)
  replace sfb := sfb.alloc (.cells #[.int .i64 stc, .int .i64 rs, .slice Avb n cvb, .int .i64 la] 25)
  replace Bfb := Bfb.alloc (.cells #[.int .i64 stc, .int .i64 rs, .slice Avb n cvb, .int .i64 la] 25)
  replace sv := sv.alloc (.cells #[.int .i64 stc, .int .i64 rs, .slice Avb n cvb, .int .i64 la] 25)
  replace Bv := Bv.alloc (.cells #[.int .i64 stc, .int .i64 rs, .slice Avb n cvb, .int .i64 la] 25)
  replace svb := svb.alloc (.cells #[.int .i64 stc, .int .i64 rs, .slice Avb n cvb, .int .i64 la] 25)
  replace bb := bb.alloc bb.size (.cells #[.int .i64 stc, .int .i64 rs, .slice Avb n cvb, .int .i64 la] 25)
  have Bvb := Blk.new w10 #[.int .i64 stc, .int .i64 rs, .slice Avb n cvb, .int .i64 la] 25
  go_wp2_with fail
  clear Bzq0 Bzq1 Bzq2 Bzq3 Bzr0 Bzr1 Bzr2 Bzr3
  generalize (w10.alloc (.cells #[.int .i64 stc, .int .i64 rs, .slice Avb n cvb, .int .i64 la] 25)) = W9 at *
  refine wp_region_held_drew (S := fun w' => Below W9.heap.size W9 w') (by kernel_rfl) (Below.refl _ _).drew (fun hHeld => ?_)
  have b := hHeld
  generalize W9.drew = wd at *
  try simp only [Act.put, List.setIfInBounds_toArray, List.set_cons_zero, List.set_cons_succ]
  refine wpAnyH_take (i := 0) (v := ?_) (by simp only [List.getElem?_toArray, List.getElem?_cons_zero]; rfl) (by kernel_rfl) (by kernel_rfl) (by kernel_rfl) (by intro _ _ _ h; exact h) (Or.inl ⟨by rfl, ?_⟩) hHeld ?_
  rotate_left 1
  · intro wq hSw
    try dsimp only at hSw
    obtain ⟨x0, x1, x2, x3, _⟩ := (Bp.under hSw).four
    go_simp
    try (with_reducible rfl)
  try simp only [Act.put, List.setIfInBounds_toArray, List.set_cons_zero, List.set_cons_succ]
  refine wpAnyH_take (i := 1) (v := ?_) (by simp only [List.getElem?_toArray, List.getElem?_cons_succ, List.getElem?_cons_zero]; rfl) (by kernel_rfl) (by kernel_rfl) (by kernel_rfl) (by intro _ _ _ h; exact h) (Or.inl ⟨by rfl, ?_⟩) hHeld ?_
  rotate_left 1
  · intro wq hSw
    try dsimp only at hSw
    obtain ⟨x0, x1, x2, x3, _⟩ := (Bpb.under hSw).four
    go_simp
    try (with_reducible rfl)
  try simp only [Act.put, List.setIfInBounds_toArray, List.set_cons_zero, List.set_cons_succ]
  refine wpAnyH_ready (rs := [2]) (by kernel_rfl) (by simp) ?_
  refine AllReadyH.cons (by simp only [List.getElem?_toArray, List.getElem?_cons_succ, List.getElem?_cons_zero]; rfl) (fun K hK => ?_) AllReadyH.nil
  have hC := zSame_at stp rs la Ap mp cp lp stp rs la Apb mp cpb lp true wd (sp.below b) (spb.below b) (same_self _ _ _ _)
  go_simp
  refine hC.mono ?_
  rintro e w_2_1 ⟨rfl, bC⟩
  go_wp2_with fail
  replace b := b.trans (bC.mono b.size)
  clear hC
  refine hK.out _ _ b (fun _ => wpAnyH_stronger (S' := fun w' => Below w_2_1.heap.size w_2_1 w') (fun w' h => Below.trans b (h.mono b.size)) _ _ _ _ ?_)
  clear hK K hHeld
  replace s0 := s0.below b
  replace s2 := s2.below b
  replace Bz := Bz.under b
  replace sp := sp.below b
  replace Bp := Bp.under b
  replace spb := spb.below b
  replace Bpb := Bpb.under b
  replace sr := sr.below b
  replace Br := Br.under b
  replace srb := srb.below b
  replace Brb := Brb.under b
  replace sf := sf.below b
  replace Bf := Bf.under b
  replace sfb := sfb.below b
  replace Bfb := Bfb.under b
  replace sv := sv.below b
  replace Bv := Bv.under b
  replace svb := svb.below b
  replace Bvb := Bvb.under b
  replace bb := bb.trans (b.mono bb.size)
  replace b : Below w_2_1.heap.size w_2_1 w_2_1 := Below.refl _ _
  have hHeld := b
  try simp only [Act.put, List.setIfInBounds_toArray, List.set_cons_zero, List.set_cons_succ]
  refine wpAnyH_take (i := 3) (v := ?_) (by simp only [List.getElem?_toArray, List.getElem?_cons_succ, List.getElem?_cons_zero]; rfl) (by kernel_rfl) (by kernel_rfl) (by kernel_rfl) (by intro _ _ _ h; exact h) (Or.inl ⟨by rfl, ?_⟩) hHeld ?_
  rotate_left 1
  · intro wq hSw
    try dsimp only at hSw
    go_simp
    try (with_reducible rfl)
  try simp only [Act.put, List.setIfInBounds_toArray, List.set_cons_zero, List.set_cons_succ]
  refine wpAnyH_take (i := 4) (v := ?_) (by simp only [List.getElem?_toArray, List.getElem?_cons_succ, List.getElem?_cons_zero]; rfl) (by kernel_rfl) (by kernel_rfl) (by kernel_rfl) (by intro _ _ _ h; exact h) (Or.inl ⟨by rfl, ?_⟩) hHeld ?_
  rotate_left 1
  · intro wq hSw
    try dsimp only at hSw
    obtain ⟨x0, x1, x2, x3, _⟩ := (Br.under hSw).four
    go_simp
    try (with_reducible rfl)
  try simp only [Act.put, List.setIfInBounds_toArray, List.set_cons_zero, List.set_cons_succ]
  refine wpAnyH_take (i := 5) (v := ?_) (by simp only [List.getElem?_toArray, List.getElem?_cons_succ, List.getElem?_cons_zero]; rfl) (by kernel_rfl) (by kernel_rfl) (by kernel_rfl) (by intro _ _ _ h; exact h) (Or.inl ⟨by rfl, ?_⟩) hHeld ?_
  rotate_left 1
  · intro wq hSw
    try dsimp only at hSw
    obtain ⟨x0, x1, x2, x3, _⟩ := (Brb.under hSw).four
    go_simp
    try (with_reducible rfl)
  try simp only [Act.put, List.setIfInBounds_toArray, List.set_cons_zero, List.set_cons_succ]
  refine wpAnyH_ready (rs := [6]) (by kernel_rfl) (by simp) ?_
  refine AllReadyH.cons (by simp only [List.getElem?_toArray, List.getElem?_cons_succ, List.getElem?_cons_zero]; rfl) (fun K hK => ?_) AllReadyH.nil
  have hC := zSame_at xr rr lar Ar mr cr lr xr rr lar Arb mr crb lr true w_2_1 (sr.below b) (srb.below b) (same_self _ _ _ _)
  go_simp
  refine hC.mono ?_
  rintro e w_6_2 ⟨rfl, bC⟩
  go_wp2_with fail
  replace b := b.trans (bC.mono b.size)
  clear hC
  refine hK.out _ _ b (fun _ => wpAnyH_stronger (S' := fun w' => Below w_6_2.heap.size w_6_2 w') (fun w' h => Below.trans b (h.mono b.size)) _ _ _ _ ?_)
  clear hK K hHeld
  replace s0 := s0.below b
  replace s2 := s2.below b
  replace Bz := Bz.under b
  replace sp := sp.below b
  replace Bp := Bp.under b
  replace spb := spb.below b
  replace Bpb := Bpb.under b
  replace sr := sr.below b
  replace Br := Br.under b
  replace srb := srb.below b
  replace Brb := Brb.under b
  replace sf := sf.below b
  replace Bf := Bf.under b
  replace sfb := sfb.below b
  replace Bfb := Bfb.under b
  replace sv := sv.below b
  replace Bv := Bv.under b
  replace svb := svb.below b
  replace Bvb := Bvb.under b
  replace bb := bb.trans (b.mono bb.size)
  replace b : Below w_6_2.heap.size w_6_2 w_6_2 := Below.refl _ _
  have hHeld := b
  try simp only [Act.put, List.setIfInBounds_toArray, List.set_cons_zero, List.set_cons_succ]
  refine wpAnyH_take (i := 7) (v := ?_) (by simp only [List.getElem?_toArray, List.getElem?_cons_succ, List.getElem?_cons_zero]; rfl) (by kernel_rfl) (by kernel_rfl) (by kernel_rfl) (by intro _ _ _ h; exact h) (Or.inl ⟨by rfl, ?_⟩) hHeld ?_
  rotate_left 1
  · intro wq hSw
    try dsimp only at hSw
    go_simp
    try (with_reducible rfl)
  try simp only [Act.put, List.setIfInBounds_toArray, List.set_cons_zero, List.set_cons_succ]
  refine wpAnyH_take (i := 8) (v := ?_) (by simp only [List.getElem?_toArray, List.getElem?_cons_succ, List.getElem?_cons_zero]; rfl) (by kernel_rfl) (by kernel_rfl) (by kernel_rfl) (by intro _ _ _ h; exact h) (Or.inl ⟨by rfl, ?_⟩) hHeld ?_
  rotate_left 1
  · intro wq hSw
    try dsimp only at hSw
    go_simp
    try (with_reducible rfl)
  try simp only [Act.put, List.setIfInBounds_toArray, List.set_cons_zero, List.set_cons_succ]
  refine wpAnyH_take (i := 9) (v := ?_) (by simp only [List.getElem?_toArray, List.getElem?_cons_succ, List.getElem?_cons_zero]; rfl) (by kernel_rfl) (by kernel_rfl) (by kernel_rfl) (by intro _ _ _ h; exact h) (Or.inl ⟨by rfl, ?_⟩) hHeld ?_
  rotate_left 1
  · intro wq hSw
    try dsimp only at hSw
    obtain ⟨x0, x1, x2, x3, _⟩ := (Bf.under hSw).four
    go_simp
    try (with_reducible rfl)
  try simp only [Act.put, List.setIfInBounds_toArray, List.set_cons_zero, List.set_cons_succ]
  refine wpAnyH_take (i := 10) (v := ?_) (by simp only [List.getElem?_toArray, List.getElem?_cons_succ, List.getElem?_cons_zero]; rfl) (by kernel_rfl) (by kernel_rfl) (by kernel_rfl) (by intro _ _ _ h; exact h) (Or.inl ⟨by rfl, ?_⟩) hHeld ?_
  rotate_left 1
  · intro wq hSw
    try dsimp only at hSw
    obtain ⟨x0, x1, x2, x3, _⟩ := (Bfb.under hSw).four
    go_simp
    try (with_reducible rfl)
  try simp only [Act.put, List.setIfInBounds_toArray, List.set_cons_zero, List.set_cons_succ]
  refine wpAnyH_ready (rs := [11]) (by kernel_rfl) (by simp) ?_
  refine AllReadyH.cons (by simp only [List.getElem?_toArray, List.getElem?_cons_succ, List.getElem?_cons_zero]; rfl) (fun K hK => ?_) AllReadyH.nil
  have hC := zSame_at stf rs la Af n cf l stf rs la Afb n cfb l true w_6_2 (sf.below b) (sfb.below b) (same_self _ _ _ _)
  go_simp
  refine hC.mono ?_
  rintro e w_11_3 ⟨rfl, bC⟩
  go_wp2_with fail
  replace b := b.trans (bC.mono b.size)
  clear hC
  refine hK.out _ _ b (fun _ => wpAnyH_stronger (S' := fun w' => Below w_11_3.heap.size w_11_3 w') (fun w' h => Below.trans b (h.mono b.size)) _ _ _ _ ?_)
  clear hK K hHeld
  replace s0 := s0.below b
  replace s2 := s2.below b
  replace Bz := Bz.under b
  replace sp := sp.below b
  replace Bp := Bp.under b
  replace spb := spb.below b
  replace Bpb := Bpb.under b
  replace sr := sr.below b
  replace Br := Br.under b
  replace srb := srb.below b
  replace Brb := Brb.under b
  replace sf := sf.below b
  replace Bf := Bf.under b
  replace sfb := sfb.below b
  replace Bfb := Bfb.under b
  replace sv := sv.below b
  replace Bv := Bv.under b
  replace svb := svb.below b
  replace Bvb := Bvb.under b
  replace bb := bb.trans (b.mono bb.size)
  replace b : Below w_11_3.heap.size w_11_3 w_11_3 := Below.refl _ _
  have hHeld := b
  try simp only [Act.put, List.setIfInBounds_toArray, List.set_cons_zero, List.set_cons_succ]
  refine wpAnyH_take (i := 12) (v := ?_) (by simp only [List.getElem?_toArray, List.getElem?_cons_succ, List.getElem?_cons_zero]; rfl) (by kernel_rfl) (by kernel_rfl) (by kernel_rfl) (by intro _ _ _ h; exact h) (Or.inl ⟨by rfl, ?_⟩) hHeld ?_
  rotate_left 1
  · intro wq hSw
    try dsimp only at hSw
    go_simp
    try (with_reducible rfl)
  try simp only [Act.put, List.setIfInBounds_toArray, List.set_cons_zero, List.set_cons_succ]
  refine wpAnyH_take (i := 13) (v := ?_) (by simp only [List.getElem?_toArray, List.getElem?_cons_succ, List.getElem?_cons_zero]; rfl) (by kernel_rfl) (by kernel_rfl) (by kernel_rfl) (by intro _ _ _ h; exact h) (Or.inl ⟨by rfl, ?_⟩) hHeld ?_
  rotate_left 1
  · intro wq hSw
    try dsimp only at hSw
    go_simp
    try (with_reducible rfl)
  try simp only [Act.put, List.setIfInBounds_toArray, List.set_cons_zero, List.set_cons_succ]
  refine wpAnyH_take (i := 14) (v := ?_) (by simp only [List.getElem?_toArray, List.getElem?_cons_succ, List.getElem?_cons_zero]; rfl) (by kernel_rfl) (by kernel_rfl) (by kernel_rfl) (by intro _ _ _ h; exact h) (Or.inl ⟨by rfl, ?_⟩) hHeld ?_
  rotate_left 1
  · intro wq hSw
    try dsimp only at hSw
    obtain ⟨x0, x1, x2, x3, _⟩ := (Bv.under hSw).four
    go_simp
    try (with_reducible rfl)
  try simp only [Act.put, List.setIfInBounds_toArray, List.set_cons_zero, List.set_cons_succ]
  refine wpAnyH_take (i := 15) (v := ?_) (by simp only [List.getElem?_toArray, List.getElem?_cons_succ, List.getElem?_cons_zero]; rfl) (by kernel_rfl) (by kernel_rfl) (by kernel_rfl) (by intro _ _ _ h; exact h) (Or.inl ⟨by rfl, ?_⟩) hHeld ?_
  rotate_left 1
  · intro wq hSw
    try dsimp only at hSw
    obtain ⟨x0, x1, x2, x3, _⟩ := (Bvb.under hSw).four
    go_simp
    try (with_reducible rfl)
  try simp only [Act.put, List.setIfInBounds_toArray, List.set_cons_zero, List.set_cons_succ]
  refine wpAnyH_ready (rs := [16]) (by kernel_rfl) (by simp) ?_
  refine AllReadyH.cons (by simp only [List.getElem?_toArray, List.getElem?_cons_succ, List.getElem?_cons_zero]; rfl) (fun K hK => ?_) AllReadyH.nil
  have hC := zSame_at stc rs la Av n cv l stc rs la Avb n cvb l true w_11_3 (sv.below b) (svb.below b) (same_self _ _ _ _)
  go_simp
  refine hC.mono ?_
  rintro e w_16_4 ⟨rfl, bC⟩
  go_wp2_with fail
  replace b := b.trans (bC.mono b.size)
  clear hC
  refine hK.out _ _ b (fun _ => wpAnyH_stronger (S' := fun w' => Below w_16_4.heap.size w_16_4 w') (fun w' h => Below.trans b (h.mono b.size)) _ _ _ _ ?_)
  clear hK K hHeld
  replace s0 := s0.below b
  replace s2 := s2.below b
  replace Bz := Bz.under b
  replace sp := sp.below b
  replace Bp := Bp.under b
  replace spb := spb.below b
  replace Bpb := Bpb.under b
  replace sr := sr.below b
  replace Br := Br.under b
  replace srb := srb.below b
  replace Brb := Brb.under b
  replace sf := sf.below b
  replace Bf := Bf.under b
  replace sfb := sfb.below b
  replace Bfb := Bfb.under b
  replace sv := sv.below b
  replace Bv := Bv.under b
  replace svb := svb.below b
  replace Bvb := Bvb.under b
  replace bb := bb.trans (b.mono bb.size)
  replace b : Below w_16_4.heap.size w_16_4 w_16_4 := Below.refl _ _
  have hHeld := b
  try simp only [Act.put, List.setIfInBounds_toArray, List.set_cons_zero, List.set_cons_succ]
  refine wpAnyH_take (i := 17) (v := ?_) (by simp only [List.getElem?_toArray, List.getElem?_cons_succ, List.getElem?_cons_zero]; rfl) (by kernel_rfl) (by kernel_rfl) (by kernel_rfl) (by intro _ _ _ h; exact h) (Or.inl ⟨by rfl, ?_⟩) hHeld ?_
  rotate_left 1
  · intro wq hSw
    try dsimp only at hSw
    go_simp
    try (with_reducible rfl)
  try simp only [Act.put, List.setIfInBounds_toArray, List.set_cons_zero, List.set_cons_succ]
  refine wpAnyH_take (i := 18) (v := ?_) (by simp only [List.getElem?_toArray, List.getElem?_cons_succ, List.getElem?_cons_zero]; rfl) (by kernel_rfl) (by kernel_rfl) (by kernel_rfl) (by intro _ _ _ h; exact h) (Or.inl ⟨by rfl, ?_⟩) hHeld ?_
  rotate_left 1
  · intro wq hSw
    try dsimp only at hSw
    go_simp
    try (with_reducible rfl)
  try simp only [Act.put, List.setIfInBounds_toArray, List.set_cons_zero, List.set_cons_succ]
  refine wpAnyH_take (i := 19) (v := ?_) (by simp only [List.getElem?_toArray, List.getElem?_cons_succ, List.getElem?_cons_zero]; rfl) (by kernel_rfl) (by kernel_rfl) (by kernel_rfl) (by intro _ _ _ h; exact h) (Or.inl ⟨by rfl, ?_⟩) hHeld ?_
  rotate_left 1
  · intro wq hSw
    try dsimp only at hSw
    obtain ⟨x0, x1, x2, x3, _⟩ := (Bz.under hSw).four
    go_simp
    try (with_reducible rfl)
  try simp only [Act.put, List.setIfInBounds_toArray, List.set_cons_zero, List.set_cons_succ]
  refine wpAnyH_take (i := 21) (v := ?_) (by simp only [List.getElem?_toArray, List.getElem?_cons_succ, List.getElem?_cons_zero]; rfl) (by kernel_rfl) (by kernel_rfl) (by kernel_rfl) (by intro _ _ _ h; exact h) (Or.inl ⟨by rfl, ?_⟩) hHeld ?_
  rotate_left 1
  · intro wq hSw
    try dsimp only at hSw
    obtain ⟨x0, x1, x2, x3, _⟩ := (Bz.under hSw).four
    go_simp
    try (with_reducible rfl)
  try simp only [Act.put, List.setIfInBounds_toArray, List.set_cons_zero, List.set_cons_succ]
  refine wpAnyH_ready (rs := [20]) (by kernel_rfl) (by simp) ?_
  refine AllReadyH.cons (by simp only [List.getElem?_toArray, List.getElem?_cons_succ, List.getElem?_cons_zero]; rfl) (fun K hK => ?_) AllReadyH.nil
  have hC := zFlush_at st rs la A n c l w_16_4 (s0.below b) (by omega)
  go_simp
  refine hC.mono ?_
  rintro e w_20_5 ⟨A20, c20, rfl, N20, bC⟩
  go_wp2_with fail
  replace b := b.trans (bC.mono b.size)
  clear hC
  refine hK.out _ _ b (fun _ => wpAnyH_stronger (S' := fun w' => Below w_20_5.heap.size w_20_5 w') (fun w' h => Below.trans b (h.mono b.size)) _ _ _ _ ?_)
  clear hK K hHeld
  replace s0 := s0.below b
  replace s2 := s2.below b
  replace Bz := Bz.under b
  replace sp := sp.below b
  replace Bp := Bp.under b
  replace spb := spb.below b
  replace Bpb := Bpb.under b
  replace sr := sr.below b
  replace Br := Br.under b
  replace srb := srb.below b
  replace Brb := Brb.under b
  replace sf := sf.below b
  replace Bf := Bf.under b
  replace sfb := sfb.below b
  replace Bfb := Bfb.under b
  replace sv := sv.below b
  replace Bv := Bv.under b
  replace svb := svb.below b
  replace Bvb := Bvb.under b
  replace bb := bb.trans (b.mono bb.size)
  replace b : Below w_20_5.heap.size w_20_5 w_20_5 := Below.refl _ _
  have hHeld := b
  try simp only [Act.put, List.setIfInBounds_toArray, List.set_cons_zero, List.set_cons_succ]
  have s20 := N20.sl
  refine wpAnyH_ready (rs := [22]) (by kernel_rfl) (by simp) ?_
  refine AllReadyH.cons (by simp only [List.getElem?_toArray, List.getElem?_cons_succ, List.getElem?_cons_zero]; rfl) (fun K hK => ?_) AllReadyH.nil
  have hC := refFlush3_at st rs la A n c l w_20_5 (s0.below b) (by omega)
  go_simp
  refine hC.mono ?_
  rintro e w_22_6 ⟨A22, c22, rfl, N22, bC⟩
  go_wp2_with fail
  replace b := b.trans (bC.mono b.size)
  clear hC
  refine hK.out _ _ b (fun _ => wpAnyH_stronger (S' := fun w' => Below w_22_6.heap.size w_22_6 w') (fun w' h => Below.trans b (h.mono b.size)) _ _ _ _ ?_)
  clear hK K hHeld
  replace s0 := s0.below b
  replace s2 := s2.below b
  replace Bz := Bz.under b
  replace sp := sp.below b
  replace Bp := Bp.under b
  replace spb := spb.below b
  replace Bpb := Bpb.under b
  replace sr := sr.below b
  replace Br := Br.under b
  replace srb := srb.below b
  replace Brb := Brb.under b
  replace sf := sf.below b
  replace Bf := Bf.under b
  replace sfb := sfb.below b
  replace Bfb := Bfb.under b
  replace sv := sv.below b
  replace Bv := Bv.under b
  replace svb := svb.below b
  replace Bvb := Bvb.under b
  replace s20 := s20.below b
  replace bb := bb.trans (b.mono bb.size)
  replace b : Below w_22_6.heap.size w_22_6 w_22_6 := Below.refl _ _
  have hHeld := b
  try simp only [Act.put, List.setIfInBounds_toArray, List.set_cons_zero, List.set_cons_succ]
  have s22 := N22.sl
  refine wpAnyH_ready (rs := [23]) (by kernel_rfl) (by simp) ?_
  refine AllReadyH.cons (by simp only [List.getElem?_toArray, List.getElem?_cons_succ, List.getElem?_cons_zero]; rfl) (fun K hK => ?_) AllReadyH.nil
  have hC := zSame_at st rs n A20 n c20 l st rs n A22 n c22 l true w_22_6 (s20.below b) (s22.below b) (same_self _ _ _ _)
  go_simp
  refine hC.mono ?_
  rintro e w_23_7 ⟨rfl, bC⟩
  go_wp2_with fail
  replace b := b.trans (bC.mono b.size)
  clear hC
  refine hK.out _ _ b (fun _ => wpAnyH_stronger (S' := fun w' => Below w_23_7.heap.size w_23_7 w') (fun w' h => Below.trans b (h.mono b.size)) _ _ _ _ ?_)
  clear hK K hHeld
  replace s0 := s0.below b
  replace s2 := s2.below b
  replace Bz := Bz.under b
  replace sp := sp.below b
  replace Bp := Bp.under b
  replace spb := spb.below b
  replace Bpb := Bpb.under b
  replace sr := sr.below b
  replace Br := Br.under b
  replace srb := srb.below b
  replace Brb := Brb.under b
  replace sf := sf.below b
  replace Bf := Bf.under b
  replace sfb := sfb.below b
  replace Bfb := Bfb.under b
  replace sv := sv.below b
  replace Bv := Bv.under b
  replace svb := svb.below b
  replace Bvb := Bvb.under b
  replace s20 := s20.below b
  replace s22 := s22.below b
  replace bb := bb.trans (b.mono bb.size)
  replace b : Below w_23_7.heap.size w_23_7 w_23_7 := Below.refl _ _
  have hHeld := b
  try simp only [Act.put, List.setIfInBounds_toArray, List.set_cons_zero, List.set_cons_succ]
  refine wpAnyH_take (i := 24) (v := ?_) (by simp only [List.getElem?_toArray, List.getElem?_cons_succ, List.getElem?_cons_zero]; rfl) (by kernel_rfl) (by kernel_rfl) (by kernel_rfl) (by intro _ _ _ h; exact h) (Or.inl ⟨by rfl, ?_⟩) hHeld ?_
  rotate_left 1
  · intro wq hSw
    try dsimp only at hSw
    go_simp
    try (with_reducible rfl)
  try simp only [Act.put, List.setIfInBounds_toArray, List.set_cons_zero, List.set_cons_succ]
  refine wpAnyH_take (i := 25) (v := ?_) (by simp only [List.getElem?_toArray, List.getElem?_cons_succ, List.getElem?_cons_zero]; rfl) (by kernel_rfl) (by kernel_rfl) (by kernel_rfl) (by intro _ _ _ h; exact h) (Or.inl ⟨by rfl, ?_⟩) hHeld ?_
  rotate_left 1
  · intro wq hSw
    try dsimp only at hSw
    go_simp
    try (with_reducible rfl)
  try simp only [Act.put, List.setIfInBounds_toArray, List.set_cons_zero, List.set_cons_succ]
  refine wpAnyH_take (i := 26) (v := ?_) (by simp only [List.getElem?_toArray, List.getElem?_cons_succ, List.getElem?_cons_zero]; rfl) (by kernel_rfl) (by kernel_rfl) (by kernel_rfl) (by intro _ _ _ h; exact h) (Or.inl ⟨by rfl, ?_⟩) hHeld ?_
  rotate_left 1
  · intro wq hSw
    try dsimp only at hSw
    obtain ⟨x0, x1, x2, x3, _⟩ := (Bz.under hSw).four
    go_simp
    try (with_reducible rfl)
  try simp only [Act.put, List.setIfInBounds_toArray, List.set_cons_zero, List.set_cons_succ]
  refine wpAnyH_take (i := 27) (v := ?_) (by simp only [List.getElem?_toArray, List.getElem?_cons_succ, List.getElem?_cons_zero]; rfl) (by kernel_rfl) (by kernel_rfl) (by kernel_rfl) (by intro _ _ _ h; exact h) (Or.inl ⟨by rfl, ?_⟩) hHeld ?_
  rotate_left 1
  · intro wq hSw
    try dsimp only at hSw
    go_simp
    try (with_reducible rfl)
  try simp only [Act.put, List.setIfInBounds_toArray, List.set_cons_zero, List.set_cons_succ]
  refine wpAnyH_take (i := 28) (v := ?_) (by simp only [List.getElem?_toArray, List.getElem?_cons_succ, List.getElem?_cons_zero]; rfl) (by kernel_rfl) (by kernel_rfl) (by kernel_rfl) (by intro _ _ _ h; exact h) (Or.inl ⟨by rfl, ?_⟩) hHeld ?_
  rotate_left 1
  · intro wq hSw
    try dsimp only at hSw
    go_simp
    try (with_reducible rfl)
  try simp only [Act.put, List.setIfInBounds_toArray, List.set_cons_zero, List.set_cons_succ]
  refine wpAnyH_take (i := 30) (v := ?_) (by simp only [List.getElem?_toArray, List.getElem?_cons_succ, List.getElem?_cons_zero]; rfl) (by kernel_rfl) (by kernel_rfl) (by kernel_rfl) (by intro _ _ _ h; exact h) (Or.inl ⟨by rfl, ?_⟩) hHeld ?_
  rotate_left 1
  · intro wq hSw
    try dsimp only at hSw
    obtain ⟨x0, x1, x2, x3, _⟩ := (Bz.under hSw).four
    go_simp
    try (with_reducible rfl)
  try simp only [Act.put, List.setIfInBounds_toArray, List.set_cons_zero, List.set_cons_succ]
  refine wpAnyH_take (i := 31) (v := ?_) (by simp only [List.getElem?_toArray, List.getElem?_cons_succ, List.getElem?_cons_zero]; rfl) (by kernel_rfl) (by kernel_rfl) (by kernel_rfl) (by intro _ _ _ h; exact h) (Or.inl ⟨by rfl, ?_⟩) hHeld ?_
  rotate_left 1
  · intro wq hSw
    try dsimp only at hSw
    go_simp
    try (with_reducible rfl)
  try simp only [Act.put, List.setIfInBounds_toArray, List.set_cons_zero, List.set_cons_succ]
  refine wpAnyH_take (i := 32) (v := ?_) (by simp only [List.getElem?_toArray, List.getElem?_cons_succ, List.getElem?_cons_zero]; rfl) (by kernel_rfl) (by kernel_rfl) (by kernel_rfl) (by intro _ _ _ h; exact h) (Or.inl ⟨by rfl, ?_⟩) hHeld ?_
  rotate_left 1
  · intro wq hSw
    try dsimp only at hSw
    go_simp
    try (with_reducible rfl)
  try simp only [Act.put, List.setIfInBounds_toArray, List.set_cons_zero, List.set_cons_succ]
  refine wpAnyH_ready (rs := [29]) (by kernel_rfl) (by simp) ?_
  refine AllReadyH.cons (by simp only [List.getElem?_toArray, List.getElem?_cons_succ, List.getElem?_cons_zero]; rfl) (fun K hK => ?_) AllReadyH.nil
  have hC := zCrash_at st rs la size keep A n c l stk lak lk mk w_23_7 (s0.below b) (by omega) hk0 hk1 hstk.out hlk.out hlak.out hmk.out
  go_simp
  refine hC.mono ?_
  rintro e w_29_8 ⟨A29, c29, rfl, N29, bC⟩
  go_wp2_with fail
  replace b := b.trans (bC.mono b.size)
  clear hC
  refine hK.out _ _ b (fun _ => wpAnyH_stronger (S' := fun w' => Below w_29_8.heap.size w_29_8 w') (fun w' h => Below.trans b (h.mono b.size)) _ _ _ _ ?_)
  clear hK K hHeld
  replace s0 := s0.below b
  replace s2 := s2.below b
  replace Bz := Bz.under b
  replace sp := sp.below b
  replace Bp := Bp.under b
  replace spb := spb.below b
  replace Bpb := Bpb.under b
  replace sr := sr.below b
  replace Br := Br.under b
  replace srb := srb.below b
  replace Brb := Brb.under b
  replace sf := sf.below b
  replace Bf := Bf.under b
  replace sfb := sfb.below b
  replace Bfb := Bfb.under b
  replace sv := sv.below b
  replace Bv := Bv.under b
  replace svb := svb.below b
  replace Bvb := Bvb.under b
  replace s20 := s20.below b
  replace s22 := s22.below b
  replace bb := bb.trans (b.mono bb.size)
  replace b : Below w_29_8.heap.size w_29_8 w_29_8 := Below.refl _ _
  have hHeld := b
  try simp only [Act.put, List.setIfInBounds_toArray, List.set_cons_zero, List.set_cons_succ]
  have s29 := N29.sl
  refine wpAnyH_ready (rs := [33]) (by kernel_rfl) (by simp) ?_
  refine AllReadyH.cons (by simp only [List.getElem?_toArray, List.getElem?_cons_succ, List.getElem?_cons_zero]; rfl) (fun K hK => ?_) AllReadyH.nil
  have hC := refCrash3_at st rs la size keep A n c l stk lak lk mk w_29_8 (s0.below b) (by omega) hk0 hk1 hstk.out hlk.out hlak.out hmk.out
  go_simp
  refine hC.mono ?_
  rintro e w_33_9 ⟨A33, c33, rfl, N33, bC⟩
  go_wp2_with fail
  replace b := b.trans (bC.mono b.size)
  clear hC
  refine hK.out _ _ b (fun _ => wpAnyH_stronger (S' := fun w' => Below w_33_9.heap.size w_33_9 w') (fun w' h => Below.trans b (h.mono b.size)) _ _ _ _ ?_)
  clear hK K hHeld
  replace s0 := s0.below b
  replace s2 := s2.below b
  replace Bz := Bz.under b
  replace sp := sp.below b
  replace Bp := Bp.under b
  replace spb := spb.below b
  replace Bpb := Bpb.under b
  replace sr := sr.below b
  replace Br := Br.under b
  replace srb := srb.below b
  replace Brb := Brb.under b
  replace sf := sf.below b
  replace Bf := Bf.under b
  replace sfb := sfb.below b
  replace Bfb := Bfb.under b
  replace sv := sv.below b
  replace Bv := Bv.under b
  replace svb := svb.below b
  replace Bvb := Bvb.under b
  replace s20 := s20.below b
  replace s22 := s22.below b
  replace s29 := s29.below b
  replace bb := bb.trans (b.mono bb.size)
  replace b : Below w_33_9.heap.size w_33_9 w_33_9 := Below.refl _ _
  have hHeld := b
  try simp only [Act.put, List.setIfInBounds_toArray, List.set_cons_zero, List.set_cons_succ]
  have s33 := N33.sl
  refine wpAnyH_ready (rs := [34]) (by kernel_rfl) (by simp) ?_
  refine AllReadyH.cons (by simp only [List.getElem?_toArray, List.getElem?_cons_succ, List.getElem?_cons_zero]; rfl) (fun K hK => ?_) AllReadyH.nil
  have hC := zSame_at stk rs lak A29 mk c29 lk stk rs lak A33 mk c33 lk true w_33_9 (s29.below b) (s33.below b) (same_self _ _ _ _)
  go_simp
  refine hC.mono ?_
  rintro e w_34_10 ⟨rfl, bC⟩
  go_wp2_with fail
  replace b := b.trans (bC.mono b.size)
  clear hC
  refine hK.out _ _ b (fun _ => wpAnyH_stronger (S' := fun w' => Below w_34_10.heap.size w_34_10 w') (fun w' h => Below.trans b (h.mono b.size)) _ _ _ _ ?_)
  clear hK K hHeld
  replace s0 := s0.below b
  replace s2 := s2.below b
  replace Bz := Bz.under b
  replace sp := sp.below b
  replace Bp := Bp.under b
  replace spb := spb.below b
  replace Bpb := Bpb.under b
  replace sr := sr.below b
  replace Br := Br.under b
  replace srb := srb.below b
  replace Brb := Brb.under b
  replace sf := sf.below b
  replace Bf := Bf.under b
  replace sfb := sfb.below b
  replace Bfb := Bfb.under b
  replace sv := sv.below b
  replace Bv := Bv.under b
  replace svb := svb.below b
  replace Bvb := Bvb.under b
  replace s20 := s20.below b
  replace s22 := s22.below b
  replace s29 := s29.below b
  replace s33 := s33.below b
  replace bb := bb.trans (b.mono bb.size)
  replace b : Below w_34_10.heap.size w_34_10 w_34_10 := Below.refl _ _
  have hHeld := b
  try simp only [Act.put, List.setIfInBounds_toArray, List.set_cons_zero, List.set_cons_succ]
  refine wpAnyH_take (i := 35) (v := ?_) (by simp only [List.getElem?_toArray, List.getElem?_cons_succ, List.getElem?_cons_zero]; rfl) (by kernel_rfl) (by kernel_rfl) (by kernel_rfl) (by intro _ _ _ h; exact h) (Or.inl ⟨by rfl, ?_⟩) hHeld ?_
  rotate_left 1
  · intro wq hSw
    try dsimp only at hSw
    go_simp
    try (with_reducible rfl)
  try simp only [Act.put, List.setIfInBounds_toArray, List.set_cons_zero, List.set_cons_succ]
  refine wpAnyH_take (i := 36) (v := ?_) (by simp only [List.getElem?_toArray, List.getElem?_cons_succ, List.getElem?_cons_zero]; rfl) (by kernel_rfl) (by kernel_rfl) (by kernel_rfl) (by intro _ _ _ h; exact h) (Or.inl ⟨by rfl, ?_⟩) hHeld ?_
  rotate_left 1
  · intro wq hSw
    try dsimp only at hSw
    go_simp
    try (with_reducible rfl)
  try simp only [Act.put, List.setIfInBounds_toArray, List.set_cons_zero, List.set_cons_succ]
  refine wpAnyH_done (by kernel_rfl) ?_ _
  go_wp2_with fail
  clear b
  refine wp_region_held_drew (S := fun w' => Below w_34_10.heap.size w_34_10 w') (by kernel_rfl) (Below.refl _ _).drew (fun hHeld => ?_)
  have b := hHeld
  generalize w_34_10.drew = wd at *
  try simp only [Act.put, List.setIfInBounds_toArray, List.set_cons_zero, List.set_cons_succ]
  refine wpAnyH_take (i := 0) (v := ?_) (by simp only [List.getElem?_toArray, List.getElem?_cons_zero]; rfl) (by kernel_rfl) (by kernel_rfl) (by kernel_rfl) (by intro _ _ _ h; exact h) (Or.inl ⟨by rfl, ?_⟩) hHeld ?_
  rotate_left 1
  · intro wq hSw
    try dsimp only at hSw
    go_simp
    try (with_reducible rfl)
  try simp only [Act.put, List.setIfInBounds_toArray, List.set_cons_zero, List.set_cons_succ]
  refine wpAnyH_take (i := 1) (v := ?_) (by simp only [List.getElem?_toArray, List.getElem?_cons_succ, List.getElem?_cons_zero]; rfl) (by kernel_rfl) (by kernel_rfl) (by kernel_rfl) (by intro _ _ _ h; exact h) (Or.inl ⟨by rfl, ?_⟩) hHeld ?_
  rotate_left 1
  · intro wq hSw
    try dsimp only at hSw
    go_simp
    try (with_reducible rfl)
  try simp only [Act.put, List.setIfInBounds_toArray, List.set_cons_zero, List.set_cons_succ]
  refine wpAnyH_take (i := 2) (v := ?_) (by simp only [List.getElem?_toArray, List.getElem?_cons_succ, List.getElem?_cons_zero]; rfl) (by kernel_rfl) (by kernel_rfl) (by kernel_rfl) (by intro _ _ _ h; exact h) (Or.inl ⟨by rfl, ?_⟩) hHeld ?_
  rotate_left 1
  · intro wq hSw
    try dsimp only at hSw
    obtain ⟨x0, x1, x2, x3, _⟩ := (Bz.under hSw).four
    go_simp
    try (with_reducible rfl)
  try simp only [Act.put, List.setIfInBounds_toArray, List.set_cons_zero, List.set_cons_succ]
  refine wpAnyH_take (i := 3) (v := ?_) (by simp only [List.getElem?_toArray, List.getElem?_cons_succ, List.getElem?_cons_zero]; rfl) (by kernel_rfl) (by kernel_rfl) (by kernel_rfl) (by intro _ _ _ h; exact h) (Or.inl ⟨by rfl, ?_⟩) hHeld ?_
  rotate_left 1
  · intro wq hSw
    try dsimp only at hSw
    go_simp
    try (with_reducible rfl)
  try simp only [Act.put, List.setIfInBounds_toArray, List.set_cons_zero, List.set_cons_succ]
  refine wpAnyH_take (i := 5) (v := ?_) (by simp only [List.getElem?_toArray, List.getElem?_cons_succ, List.getElem?_cons_zero]; rfl) (by kernel_rfl) (by kernel_rfl) (by kernel_rfl) (by intro _ _ _ h; exact h) (Or.inl ⟨by rfl, ?_⟩) hHeld ?_
  rotate_left 1
  · intro wq hSw
    try dsimp only at hSw
    obtain ⟨x0, x1, x2, x3, _⟩ := (Bz.under hSw).four
    go_simp
    try (with_reducible rfl)
  try simp only [Act.put, List.setIfInBounds_toArray, List.set_cons_zero, List.set_cons_succ]
  refine wpAnyH_take (i := 6) (v := ?_) (by simp only [List.getElem?_toArray, List.getElem?_cons_succ, List.getElem?_cons_zero]; rfl) (by kernel_rfl) (by kernel_rfl) (by kernel_rfl) (by intro _ _ _ h; exact h) (Or.inl ⟨by rfl, ?_⟩) hHeld ?_
  rotate_left 1
  · intro wq hSw
    try dsimp only at hSw
    go_simp
    try (with_reducible rfl)
  try simp only [Act.put, List.setIfInBounds_toArray, List.set_cons_zero, List.set_cons_succ]
  refine wpAnyH_ready (rs := [4]) (by kernel_rfl) (by simp) ?_
  refine AllReadyH.cons (by simp only [List.getElem?_toArray, List.getElem?_cons_succ, List.getElem?_cons_zero]; rfl) (fun K hK => ?_) AllReadyH.nil
  have hC := zCheck_at st rs la size A n c ck wd hck.out
  go_simp
  refine hC.mono ?_
  rintro e w_4_1 ⟨rfl, bC⟩
  go_wp2_with fail
  replace b := b.trans (bC.mono b.size)
  clear hC
  refine hK.out _ _ b (fun _ => wpAnyH_stronger (S' := fun w' => Below w_4_1.heap.size w_4_1 w') (fun w' h => Below.trans b (h.mono b.size)) _ _ _ _ ?_)
  clear hK K hHeld
  replace s0 := s0.below b
  replace s2 := s2.below b
  replace Bz := Bz.under b
  replace sp := sp.below b
  replace Bp := Bp.under b
  replace spb := spb.below b
  replace Bpb := Bpb.under b
  replace sr := sr.below b
  replace Br := Br.under b
  replace srb := srb.below b
  replace Brb := Brb.under b
  replace sf := sf.below b
  replace Bf := Bf.under b
  replace sfb := sfb.below b
  replace Bfb := Bfb.under b
  replace sv := sv.below b
  replace Bv := Bv.under b
  replace svb := svb.below b
  replace Bvb := Bvb.under b
  replace s20 := s20.below b
  replace s22 := s22.below b
  replace s29 := s29.below b
  replace s33 := s33.below b
  replace bb := bb.trans (b.mono bb.size)
  replace b : Below w_4_1.heap.size w_4_1 w_4_1 := Below.refl _ _
  have hHeld := b
  try simp only [Act.put, List.setIfInBounds_toArray, List.set_cons_zero, List.set_cons_succ]
  refine wpAnyH_ready (rs := [7]) (by kernel_rfl) (by simp) ?_
  refine AllReadyH.cons (by simp only [List.getElem?_toArray, List.getElem?_cons_succ, List.getElem?_cons_zero]; rfl) (fun K hK => ?_) AllReadyH.nil
  have hC := refCheck3_at st rs la size A n c ck w_4_1 hck.out
  go_simp
  refine hC.mono ?_
  rintro e w_7_2 ⟨rfl, bC⟩
  go_wp2_with fail
  replace b := b.trans (bC.mono b.size)
  clear hC
  refine hK.out _ _ b (fun _ => wpAnyH_stronger (S' := fun w' => Below w_7_2.heap.size w_7_2 w') (fun w' h => Below.trans b (h.mono b.size)) _ _ _ _ ?_)
  clear hK K hHeld
  replace s0 := s0.below b
  replace s2 := s2.below b
  replace Bz := Bz.under b
  replace sp := sp.below b
  replace Bp := Bp.under b
  replace spb := spb.below b
  replace Bpb := Bpb.under b
  replace sr := sr.below b
  replace Br := Br.under b
  replace srb := srb.below b
  replace Brb := Brb.under b
  replace sf := sf.below b
  replace Bf := Bf.under b
  replace sfb := sfb.below b
  replace Bfb := Bfb.under b
  replace sv := sv.below b
  replace Bv := Bv.under b
  replace svb := svb.below b
  replace Bvb := Bvb.under b
  replace s20 := s20.below b
  replace s22 := s22.below b
  replace s29 := s29.below b
  replace s33 := s33.below b
  replace bb := bb.trans (b.mono bb.size)
  replace b : Below w_7_2.heap.size w_7_2 w_7_2 := Below.refl _ _
  have hHeld := b
  try simp only [Act.put, List.setIfInBounds_toArray, List.set_cons_zero, List.set_cons_succ]
  refine wpAnyH_take (i := 8) (v := ?_) (by simp only [List.getElem?_toArray, List.getElem?_cons_succ, List.getElem?_cons_zero]; rfl) (by kernel_rfl) (by kernel_rfl) (by kernel_rfl) (by intro _ _ _ h; exact h) (Or.inl ⟨by rfl, ?_⟩) hHeld ?_
  rotate_left 1
  · intro wq hSw
    try dsimp only at hSw
    go_simp
    try (with_reducible rfl)
  try simp only [Act.put, List.setIfInBounds_toArray, List.set_cons_zero, List.set_cons_succ]
  refine wpAnyH_take (i := 9) (v := ?_) (by simp only [List.getElem?_toArray, List.getElem?_cons_succ, List.getElem?_cons_zero]; rfl) (by kernel_rfl) (by kernel_rfl) (by kernel_rfl) (by intro _ _ _ h; exact h) (Or.inl ⟨by rfl, ?_⟩) hHeld ?_
  rotate_left 1
  · intro wq hSw
    try dsimp only at hSw
    go_simp
    try (with_reducible rfl)
  try simp only [Act.put, List.setIfInBounds_toArray, List.set_cons_zero, List.set_cons_succ]
  refine wpAnyH_take (i := 10) (v := ?_) (by simp only [List.getElem?_toArray, List.getElem?_cons_succ, List.getElem?_cons_zero]; rfl) (by kernel_rfl) (by kernel_rfl) (by kernel_rfl) (by intro _ _ _ h; exact h) (Or.inl ⟨by rfl, ?_⟩) hHeld ?_
  rotate_left 1
  · intro wq hSw
    try dsimp only at hSw
    go_simp
    try (with_reducible rfl)
  try simp only [Act.put, List.setIfInBounds_toArray, List.set_cons_zero, List.set_cons_succ]
  refine wpAnyH_take (i := 11) (v := ?_) (by simp only [List.getElem?_toArray, List.getElem?_cons_succ, List.getElem?_cons_zero]; rfl) (by kernel_rfl) (by kernel_rfl) (by kernel_rfl) (by intro _ _ _ h; exact h) (Or.inl ⟨by rfl, ?_⟩) hHeld ?_
  rotate_left 1
  · intro wq hSw
    try dsimp only at hSw
    obtain ⟨x0, x1, x2, x3, _⟩ := (Bz.under hSw).four
    go_simp
    try (with_reducible rfl)
  try simp only [Act.put, List.setIfInBounds_toArray, List.set_cons_zero, List.set_cons_succ]
  refine wpAnyH_take (i := 12) (v := ?_) (by simp only [List.getElem?_toArray, List.getElem?_cons_succ, List.getElem?_cons_zero]; rfl) (by kernel_rfl) (by kernel_rfl) (by kernel_rfl) (by intro _ _ _ h; exact h) (Or.inl ⟨by rfl, ?_⟩) hHeld ?_
  rotate_left 1
  · intro wq hSw
    try dsimp only at hSw
    go_simp
    try (with_reducible rfl)
  try simp only [Act.put, List.setIfInBounds_toArray, List.set_cons_zero, List.set_cons_succ]
  refine wpAnyH_take (i := 14) (v := ?_) (by simp only [List.getElem?_toArray, List.getElem?_cons_succ, List.getElem?_cons_zero]; rfl) (by kernel_rfl) (by kernel_rfl) (by kernel_rfl) (by intro _ _ _ h; exact h) (Or.inl ⟨by rfl, ?_⟩) hHeld ?_
  rotate_left 1
  · intro wq hSw
    try dsimp only at hSw
    obtain ⟨x0, x1, x2, x3, _⟩ := (Bz.under hSw).four
    go_simp
    try (with_reducible rfl)
  try simp only [Act.put, List.setIfInBounds_toArray, List.set_cons_zero, List.set_cons_succ]
  refine wpAnyH_take (i := 15) (v := ?_) (by simp only [List.getElem?_toArray, List.getElem?_cons_succ, List.getElem?_cons_zero]; rfl) (by kernel_rfl) (by kernel_rfl) (by kernel_rfl) (by intro _ _ _ h; exact h) (Or.inl ⟨by rfl, ?_⟩) hHeld ?_
  rotate_left 1
  · intro wq hSw
    try dsimp only at hSw
    go_simp
    try (with_reducible rfl)
  try simp only [Act.put, List.setIfInBounds_toArray, List.set_cons_zero, List.set_cons_succ]
  refine wpAnyH_ready (rs := [13]) (by kernel_rfl) (by simp) ?_
  refine AllReadyH.cons (by simp only [List.getElem?_toArray, List.getElem?_cons_succ, List.getElem?_cons_zero]; rfl) (fun K hK => ?_) AllReadyH.nil
  have hC := zRoom_at st rs la size A n c ro w_7_2 hro.out
  go_simp
  refine hC.mono ?_
  rintro e w_13_3 ⟨rfl, bC⟩
  go_wp2_with fail
  replace b := b.trans (bC.mono b.size)
  clear hC
  refine hK.out _ _ b (fun _ => wpAnyH_stronger (S' := fun w' => Below w_13_3.heap.size w_13_3 w') (fun w' h => Below.trans b (h.mono b.size)) _ _ _ _ ?_)
  clear hK K hHeld
  replace s0 := s0.below b
  replace s2 := s2.below b
  replace Bz := Bz.under b
  replace sp := sp.below b
  replace Bp := Bp.under b
  replace spb := spb.below b
  replace Bpb := Bpb.under b
  replace sr := sr.below b
  replace Br := Br.under b
  replace srb := srb.below b
  replace Brb := Brb.under b
  replace sf := sf.below b
  replace Bf := Bf.under b
  replace sfb := sfb.below b
  replace Bfb := Bfb.under b
  replace sv := sv.below b
  replace Bv := Bv.under b
  replace svb := svb.below b
  replace Bvb := Bvb.under b
  replace s20 := s20.below b
  replace s22 := s22.below b
  replace s29 := s29.below b
  replace s33 := s33.below b
  replace bb := bb.trans (b.mono bb.size)
  replace b : Below w_13_3.heap.size w_13_3 w_13_3 := Below.refl _ _
  have hHeld := b
  try simp only [Act.put, List.setIfInBounds_toArray, List.set_cons_zero, List.set_cons_succ]
  refine wpAnyH_ready (rs := [16]) (by kernel_rfl) (by simp) ?_
  refine AllReadyH.cons (by simp only [List.getElem?_toArray, List.getElem?_cons_succ, List.getElem?_cons_zero]; rfl) (fun K hK => ?_) AllReadyH.nil
  have hC := refRoom3_at st rs la size A n c ro w_13_3 hro.out
  go_simp
  refine hC.mono ?_
  rintro e w_16_4 ⟨rfl, bC⟩
  go_wp2_with fail
  replace b := b.trans (bC.mono b.size)
  clear hC
  refine hK.out _ _ b (fun _ => wpAnyH_stronger (S' := fun w' => Below w_16_4.heap.size w_16_4 w') (fun w' h => Below.trans b (h.mono b.size)) _ _ _ _ ?_)
  clear hK K hHeld
  replace s0 := s0.below b
  replace s2 := s2.below b
  replace Bz := Bz.under b
  replace sp := sp.below b
  replace Bp := Bp.under b
  replace spb := spb.below b
  replace Bpb := Bpb.under b
  replace sr := sr.below b
  replace Br := Br.under b
  replace srb := srb.below b
  replace Brb := Brb.under b
  replace sf := sf.below b
  replace Bf := Bf.under b
  replace sfb := sfb.below b
  replace Bfb := Bfb.under b
  replace sv := sv.below b
  replace Bv := Bv.under b
  replace svb := svb.below b
  replace Bvb := Bvb.under b
  replace s20 := s20.below b
  replace s22 := s22.below b
  replace s29 := s29.below b
  replace s33 := s33.below b
  replace bb := bb.trans (b.mono bb.size)
  replace b : Below w_16_4.heap.size w_16_4 w_16_4 := Below.refl _ _
  have hHeld := b
  try simp only [Act.put, List.setIfInBounds_toArray, List.set_cons_zero, List.set_cons_succ]
  refine wpAnyH_take (i := 17) (v := ?_) (by simp only [List.getElem?_toArray, List.getElem?_cons_succ, List.getElem?_cons_zero]; rfl) (by kernel_rfl) (by kernel_rfl) (by kernel_rfl) (by intro _ _ _ h; exact h) (Or.inl ⟨by rfl, ?_⟩) hHeld ?_
  rotate_left 1
  · intro wq hSw
    try dsimp only at hSw
    go_simp
    try (with_reducible rfl)
  try simp only [Act.put, List.setIfInBounds_toArray, List.set_cons_zero, List.set_cons_succ]
  refine wpAnyH_take (i := 18) (v := ?_) (by simp only [List.getElem?_toArray, List.getElem?_cons_succ, List.getElem?_cons_zero]; rfl) (by kernel_rfl) (by kernel_rfl) (by kernel_rfl) (by intro _ _ _ h; exact h) (Or.inl ⟨by rfl, ?_⟩) hHeld ?_
  rotate_left 1
  · intro wq hSw
    try dsimp only at hSw
    go_simp
    try (with_reducible rfl)
  try simp only [Act.put, List.setIfInBounds_toArray, List.set_cons_zero, List.set_cons_succ]
  refine wpAnyH_take (i := 19) (v := ?_) (by simp only [List.getElem?_toArray, List.getElem?_cons_succ, List.getElem?_cons_zero]; rfl) (by kernel_rfl) (by kernel_rfl) (by kernel_rfl) (by intro _ _ _ h; exact h) (Or.inl ⟨by rfl, ?_⟩) hHeld ?_
  rotate_left 1
  · intro wq hSw
    try dsimp only at hSw
    go_simp
    try (with_reducible rfl)
  try simp only [Act.put, List.setIfInBounds_toArray, List.set_cons_zero, List.set_cons_succ]
  refine wpAnyH_take (i := 20) (v := ?_) (by simp only [List.getElem?_toArray, List.getElem?_cons_succ, List.getElem?_cons_zero]; rfl) (by kernel_rfl) (by kernel_rfl) (by kernel_rfl) (by intro _ _ _ h; exact h) (Or.inl ⟨by rfl, ?_⟩) hHeld ?_
  rotate_left 1
  · intro wq hSw
    try dsimp only at hSw
    go_simp
    try (with_reducible rfl)
  try simp only [Act.put, List.setIfInBounds_toArray, List.set_cons_zero, List.set_cons_succ]
  refine wpAnyH_take (i := 21) (v := ?_) (by simp only [List.getElem?_toArray, List.getElem?_cons_succ, List.getElem?_cons_zero]; rfl) (by kernel_rfl) (by kernel_rfl) (by kernel_rfl) (by intro _ _ _ h; exact h) (Or.inl ⟨by rfl, ?_⟩) hHeld ?_
  rotate_left 1
  · intro wq hSw
    try dsimp only at hSw
    go_simp
    try (with_reducible rfl)
  try simp only [Act.put, List.setIfInBounds_toArray, List.set_cons_zero, List.set_cons_succ]
  refine wpAnyH_take (i := 22) (v := ?_) (by simp only [List.getElem?_toArray, List.getElem?_cons_succ, List.getElem?_cons_zero]; rfl) (by kernel_rfl) (by kernel_rfl) (by kernel_rfl) (by intro _ _ _ h; exact h) (Or.inl ⟨by rfl, ?_⟩) hHeld ?_
  rotate_left 1
  · intro wq hSw
    try dsimp only at hSw
    go_simp
    try (with_reducible rfl)
  try simp only [Act.put, List.setIfInBounds_toArray, List.set_cons_zero, List.set_cons_succ]
  refine wpAnyH_take (i := 23) (v := ?_) (by simp only [List.getElem?_toArray, List.getElem?_cons_succ, List.getElem?_cons_zero]; rfl) (by kernel_rfl) (by kernel_rfl) (by kernel_rfl) (by intro _ _ _ h; exact h) (Or.inl ⟨by rfl, ?_⟩) hHeld ?_
  rotate_left 1
  · intro wq hSw
    try dsimp only at hSw
    go_simp
    try (with_reducible rfl)
  try simp only [Act.put, List.setIfInBounds_toArray, List.set_cons_zero, List.set_cons_succ]
  refine wpAnyH_take (i := 24) (v := ?_) (by simp only [List.getElem?_toArray, List.getElem?_cons_succ, List.getElem?_cons_zero]; rfl) (by kernel_rfl) (by kernel_rfl) (by kernel_rfl) (by intro _ _ _ h; exact h) (Or.inl ⟨by rfl, ?_⟩) hHeld ?_
  rotate_left 1
  · intro wq hSw
    try dsimp only at hSw
    go_simp
    try (with_reducible rfl)
  try simp only [Act.put, List.setIfInBounds_toArray, List.set_cons_zero, List.set_cons_succ]
  refine wpAnyH_take (i := 25) (v := ?_) (by simp only [List.getElem?_toArray, List.getElem?_cons_succ, List.getElem?_cons_zero]; rfl) (by kernel_rfl) (by kernel_rfl) (by kernel_rfl) (by intro _ _ _ h; exact h) (Or.inl ⟨by rfl, ?_⟩) hHeld ?_
  rotate_left 1
  · intro wq hSw
    try dsimp only at hSw
    go_simp
    try (with_reducible rfl)
  try simp only [Act.put, List.setIfInBounds_toArray, List.set_cons_zero, List.set_cons_succ]
  refine wpAnyH_take (i := 26) (v := ?_) (by simp only [List.getElem?_toArray, List.getElem?_cons_succ, List.getElem?_cons_zero]; rfl) (by kernel_rfl) (by kernel_rfl) (by kernel_rfl) (by intro _ _ _ h; exact h) (Or.inl ⟨by rfl, ?_⟩) hHeld ?_
  rotate_left 1
  · intro wq hSw
    try dsimp only at hSw
    go_simp
    try (with_reducible rfl)
  try simp only [Act.put, List.setIfInBounds_toArray, List.set_cons_zero, List.set_cons_succ]
  refine wpAnyH_take (i := 27) (v := ?_) (by simp only [List.getElem?_toArray, List.getElem?_cons_succ, List.getElem?_cons_zero]; rfl) (by kernel_rfl) (by kernel_rfl) (by kernel_rfl) (by intro _ _ _ h; exact h) (Or.inl ⟨by rfl, ?_⟩) hHeld ?_
  rotate_left 1
  · intro wq hSw
    try dsimp only at hSw
    go_simp
    try (with_reducible rfl)
  try simp only [Act.put, List.setIfInBounds_toArray, List.set_cons_zero, List.set_cons_succ]
  refine wpAnyH_take (i := 28) (v := ?_) (by simp only [List.getElem?_toArray, List.getElem?_cons_succ, List.getElem?_cons_zero]; rfl) (by kernel_rfl) (by kernel_rfl) (by kernel_rfl) (by intro _ _ _ h; exact h) (Or.inl ⟨by rfl, ?_⟩) hHeld ?_
  rotate_left 1
  · intro wq hSw
    try dsimp only at hSw
    go_simp
    try (with_reducible rfl)
  try simp only [Act.put, List.setIfInBounds_toArray, List.set_cons_zero, List.set_cons_succ]
  refine wpAnyH_take (i := 29) (v := ?_) (by simp only [List.getElem?_toArray, List.getElem?_cons_succ, List.getElem?_cons_zero]; rfl) (by kernel_rfl) (by kernel_rfl) (by kernel_rfl) (by intro _ _ _ h; exact h) (Or.inl ⟨by rfl, ?_⟩) hHeld ?_
  rotate_left 1
  · intro wq hSw
    try dsimp only at hSw
    go_simp
    try (with_reducible rfl)
  try simp only [Act.put, List.setIfInBounds_toArray, List.set_cons_zero, List.set_cons_succ]
  refine wpAnyH_take (i := 30) (v := ?_) (by simp only [List.getElem?_toArray, List.getElem?_cons_succ, List.getElem?_cons_zero]; rfl) (by kernel_rfl) (by kernel_rfl) (by kernel_rfl) (by intro _ _ _ h; exact h) (Or.inl ⟨by rfl, ?_⟩) hHeld ?_
  rotate_left 1
  · intro wq hSw
    try dsimp only at hSw
    go_simp
    try (with_reducible rfl)
  try simp only [Act.put, List.setIfInBounds_toArray, List.set_cons_zero, List.set_cons_succ]
  refine wpAnyH_take (i := 31) (v := ?_) (by simp only [List.getElem?_toArray, List.getElem?_cons_succ, List.getElem?_cons_zero]; rfl) (by kernel_rfl) (by kernel_rfl) (by kernel_rfl) (by intro _ _ _ h; exact h) (Or.inl ⟨by rfl, ?_⟩) hHeld ?_
  rotate_left 1
  · intro wq hSw
    try dsimp only at hSw
    go_simp
    try (with_reducible rfl)
  try simp only [Act.put, List.setIfInBounds_toArray, List.set_cons_zero, List.set_cons_succ]
  refine wpAnyH_take (i := 32) (v := ?_) (by simp only [List.getElem?_toArray, List.getElem?_cons_succ, List.getElem?_cons_zero]; rfl) (by kernel_rfl) (by kernel_rfl) (by kernel_rfl) (by intro _ _ _ h; exact h) (Or.inl ⟨by rfl, ?_⟩) hHeld ?_
  rotate_left 1
  · intro wq hSw
    try dsimp only at hSw
    go_simp
    try (with_reducible rfl)
  try simp only [Act.put, List.setIfInBounds_toArray, List.set_cons_zero, List.set_cons_succ]
  refine wpAnyH_take (i := 33) (v := ?_) (by simp only [List.getElem?_toArray, List.getElem?_cons_succ, List.getElem?_cons_zero]; rfl) (by kernel_rfl) (by kernel_rfl) (by kernel_rfl) (by intro _ _ _ h; exact h) (Or.inl ⟨by rfl, ?_⟩) hHeld ?_
  rotate_left 1
  · intro wq hSw
    try dsimp only at hSw
    go_simp
    try (with_reducible rfl)
  try simp only [Act.put, List.setIfInBounds_toArray, List.set_cons_zero, List.set_cons_succ]
  refine wpAnyH_take (i := 34) (v := ?_) (by simp only [List.getElem?_toArray, List.getElem?_cons_succ, List.getElem?_cons_zero]; rfl) (by kernel_rfl) (by kernel_rfl) (by kernel_rfl) (by intro _ _ _ h; exact h) (Or.inl ⟨by rfl, ?_⟩) hHeld ?_
  rotate_left 1
  · intro wq hSw
    try dsimp only at hSw
    go_simp
    try (with_reducible rfl)
  try simp only [Act.put, List.setIfInBounds_toArray, List.set_cons_zero, List.set_cons_succ]
  refine wpAnyH_take (i := 35) (v := ?_) (by simp only [List.getElem?_toArray, List.getElem?_cons_succ, List.getElem?_cons_zero]; rfl) (by kernel_rfl) (by kernel_rfl) (by kernel_rfl) (by intro _ _ _ h; exact h) (Or.inl ⟨by rfl, ?_⟩) hHeld ?_
  rotate_left 1
  · intro wq hSw
    try dsimp only at hSw
    go_simp
    try (with_reducible rfl)
  try simp only [Act.put, List.setIfInBounds_toArray, List.set_cons_zero, List.set_cons_succ]
  refine wpAnyH_take (i := 36) (v := ?_) (by simp only [List.getElem?_toArray, List.getElem?_cons_succ, List.getElem?_cons_zero]; rfl) (by kernel_rfl) (by kernel_rfl) (by kernel_rfl) (by intro _ _ _ h; exact h) (Or.inl ⟨by rfl, ?_⟩) hHeld ?_
  rotate_left 1
  · intro wq hSw
    try dsimp only at hSw
    go_simp
    try (with_reducible rfl)
  try simp only [Act.put, List.setIfInBounds_toArray, List.set_cons_zero, List.set_cons_succ]
  refine wpAnyH_take (i := 37) (v := ?_) (by simp only [List.getElem?_toArray, List.getElem?_cons_succ, List.getElem?_cons_zero]; rfl) (by kernel_rfl) (by kernel_rfl) (by kernel_rfl) (by intro _ _ _ h; exact h) (Or.inl ⟨by rfl, ?_⟩) hHeld ?_
  rotate_left 1
  · intro wq hSw
    try dsimp only at hSw
    go_simp
    try (with_reducible rfl)
  try simp only [Act.put, List.setIfInBounds_toArray, List.set_cons_zero, List.set_cons_succ]
  refine wpAnyH_take (i := 38) (v := ?_) (by simp only [List.getElem?_toArray, List.getElem?_cons_succ, List.getElem?_cons_zero]; rfl) (by kernel_rfl) (by kernel_rfl) (by kernel_rfl) (by intro _ _ _ h; exact h) (Or.inl ⟨by rfl, ?_⟩) hHeld ?_
  rotate_left 1
  · intro wq hSw
    try dsimp only at hSw
    go_simp
    try (with_reducible rfl)
  try simp only [Act.put, List.setIfInBounds_toArray, List.set_cons_zero, List.set_cons_succ]
  refine wpAnyH_take (i := 39) (v := ?_) (by simp only [List.getElem?_toArray, List.getElem?_cons_succ, List.getElem?_cons_zero]; rfl) (by kernel_rfl) (by kernel_rfl) (by kernel_rfl) (by intro _ _ _ h; exact h) (Or.inl ⟨by rfl, ?_⟩) hHeld ?_
  rotate_left 1
  · intro wq hSw
    try dsimp only at hSw
    go_simp
    try (with_reducible rfl)
  try simp only [Act.put, List.setIfInBounds_toArray, List.set_cons_zero, List.set_cons_succ]
  refine wpAnyH_take (i := 40) (v := ?_) (by simp only [List.getElem?_toArray, List.getElem?_cons_succ, List.getElem?_cons_zero]; rfl) (by kernel_rfl) (by kernel_rfl) (by kernel_rfl) (by intro _ _ _ h; exact h) (Or.inl ⟨by rfl, ?_⟩) hHeld ?_
  rotate_left 1
  · intro wq hSw
    try dsimp only at hSw
    go_simp
    try (with_reducible rfl)
  try simp only [Act.put, List.setIfInBounds_toArray, List.set_cons_zero, List.set_cons_succ]
  refine wpAnyH_take (i := 41) (v := ?_) (by simp only [List.getElem?_toArray, List.getElem?_cons_succ, List.getElem?_cons_zero]; rfl) (by kernel_rfl) (by kernel_rfl) (by kernel_rfl) (by intro _ _ _ h; exact h) (Or.inl ⟨by rfl, ?_⟩) hHeld ?_
  rotate_left 1
  · intro wq hSw
    try dsimp only at hSw
    go_simp
    try (with_reducible rfl)
  try simp only [Act.put, List.setIfInBounds_toArray, List.set_cons_zero, List.set_cons_succ]
  refine wpAnyH_take (i := 42) (v := ?_) (by simp only [List.getElem?_toArray, List.getElem?_cons_succ, List.getElem?_cons_zero]; rfl) (by kernel_rfl) (by kernel_rfl) (by kernel_rfl) (by intro _ _ _ h; exact h) (Or.inl ⟨by rfl, ?_⟩) hHeld ?_
  rotate_left 1
  · intro wq hSw
    try dsimp only at hSw
    go_simp
    try (with_reducible rfl)
  try simp only [Act.put, List.setIfInBounds_toArray, List.set_cons_zero, List.set_cons_succ]
  refine wpAnyH_done (by kernel_rfl) ?_ _
  go_wp2
  go_ret
  exact ⟨rfl, bb⟩

theorem ZoneTells_walk (a0_0 : Int) (a0_1 : Int) (a0_2 : Option Addr) (len0_2 cap0_2 : Nat) (z0_2 : List Int) (a0_3 : Int) (a1 : Int) (a2 : Option Addr) (len2 cap2 : Nat) (z2 : List Int) (a3 : Int) (w : World) (w0_0 : (Lit.int .i64 a0_0).wf = true) (w0_1 : (Lit.int .i64 a0_1).wf = true) (w0_2 : IsRow .u8 w a0_2 len0_2 cap0_2 z0_2) (w0_3 : (Lit.int .i64 a0_3).wf = true) (w1 : (Lit.int .i64 a1).wf = true) (w2 : IsRow .u8 w a2 len2 cap2 z2) (w3 : (Lit.int .i64 a3).wf = true) :
    Calls Try.prog 4 #[.agg #[.int .i64 a0_0, .int .i64 a0_1, .slice a0_2 len0_2 cap0_2, .int .i64 a0_3], .int .i64 a1, .slice a2 len2 cap2, .int .i64 a3] w (AwakePost w) := by
  obtain ⟨l0_2, s0_2⟩ := w0_2.bytes
  obtain ⟨l2, s2⟩ := w2.bytes
  exact ZoneTells_core a0_0 a0_1 a0_3 a1 a0_2 len0_2 cap0_2 l0_2 a2 len2 cap2 l2 a3 (wf_i64 w3).1 (wf_i64 w3).2 w s0_2 s2
end Go.Proofs.Ytepknniflkmjnaa
