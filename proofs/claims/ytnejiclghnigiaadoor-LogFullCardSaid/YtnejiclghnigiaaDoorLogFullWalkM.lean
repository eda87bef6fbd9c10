/-
  LogFull: the walk (written by gen_logfull.py).
-/
import Derived.Test.YtnejiclghnigiaaDoorMergD
import Derived.Deep.Cut
namespace Go.Proofs.YtnejiclghnigiaaDoor
open Go.RowKit Go.Wag
set_option linter.unusedVariables false
set_option maxRecDepth 20000

set_option maxHeartbeats 8000000 in
theorem LogFull_core (a0 a1 : Int) (w : World) (hT : Tab w) (ha0 : 0 ≤ a0) (ha1 : a0 ≤ 255) (hb0 : 0 ≤ a1) (hb1 : a1 ≤ 255) :
    Calls Tryd.prog 6 #[.int .u8 a0, .int .u8 a1] w (AwakePost w) := by
  obtain ⟨kk, hkk⟩ : ∃ n : Nat, Hid (a0 % 81 = (n : Int)) := ⟨(a0 % 81).toNat, by show _ = _; omega⟩
  obtain ⟨zz, hzz⟩ : ∃ n : Nat, Hid (1 + a1 % 10 = (n : Int)) := ⟨(1 + a1 % 10).toNat, by show _ = _; omega⟩
  have hk80 : kk ≤ 80 := by have := hkk.out; omega
  have hz10 : 1 ≤ zz ∧ zz ≤ 10 := by have := hzz.out; omega
  obtain ⟨i0, hi, hz0, hz1, hz2⟩ := info_parts i5
  have hmk := fun W => run_mk (P := Tryd.prog) 24 5 i0 (.int .u8 0) 1 Tryd.underlying24 hi hz0 hz1 hz2 rfl .i64 .i64 (a0 % 81) (a0 % 81) kk kk hkk.out hkk.out (Nat.le_refl _) (by omega) (by omega) W
  obtain ⟨q, hq⟩ : ∃ q, Hid (200 / (kk + 20) = q) := ⟨_, rfl⟩
  have hq1 : q * (kk + 20) ≤ 200 := by rw [← hq.out]; exact Nat.div_mul_le_self _ _
  have hq2 : 200 < q * (kk + 20) + (kk + 20) := by
    have h1 := Nat.div_add_mod 200 (kk + 20)
    have h2 := Nat.mod_lt 200 (show 0 < kk + 20 by omega)
    rw [hq.out, Nat.mul_comm] at h1
    omega
  have hq0 : 2 ≤ q ∧ q ≤ 10 := by
    rw [← hq.out]
    refine ⟨?_, ?_⟩
    · rw [Nat.le_div_iff_mul_le (by omega)]; omega
    · exact Nat.le_trans (Nat.div_le_div_left (show 20 ≤ kk + 20 by omega) (by omega)) (by decide)
  obtain ⟨r, hr⟩ : ∃ r : Rp, r = ⟨1, 0, List.replicate kk 0⟩ := ⟨_, rfl⟩
  have hrok : r.ok = true := by rw [hr]; simp [Rp.ok, rchk]; omega
  have hrb : (recB r).length = kk + 20 := by rw [recB_length, hr]; simp
  go_enter Tryd.func6, Tryd.ntmps6
  go_wp2_with fail
  refine (awake6_any w hT).mono ?_
  rintro e w1 ⟨rfl, b1⟩
  have al1 := (Below.refl w1.heap.size w1).alloc (Nat.le_refl _) (.cells (mk0 (.int .u8 0) kk) 5)
  have sl := zeros_sl w1 kk (by omega)
  have hs1 : (w1.alloc (.cells (mk0 (.int .u8 0) kk) 5)).heap.size = w1.heap.size + 1 := World.size_alloc _ _
  have bb := b1.trans ((al1.alloc al1.size (.cells #[.int .i64 1, .int .i64 0, .slice (some ⟨w1.heap.size, 0, none⟩) kk kk] 26)).mono b1.size)
  have Br := Blk.new (w1.alloc (.cells (mk0 (.int .u8 0) kk) 5)) #[.int .i64 1, .int .i64 0, .slice (some ⟨w1.heap.size, 0, none⟩) kk kk] 26
  replace sl := sl.alloc (.cells #[.int .i64 1, .int .i64 0, .slice (some ⟨w1.heap.size, 0, none⟩) kk kk] 26)
  rw [hs1] at Br
  have hBr0 := Br.lt
  go_wp2_with fail
  generalize (w1.alloc (.cells (mk0 (.int .u8 0) kk) 5)).alloc (.cells #[.int .i64 1, .int .i64 0, .slice (some ⟨w1.heap.size, 0, none⟩) kk kk] 26) = w2 at *
  have hkb : w.heap.size ≤ w1.heap.size := b1.size
  generalize w1.heap.size = kb at *
  clear b1 al1 hs1 hmk
  have hC := dNew_at (1 + a1 % 10) 200 (List.replicate zz zero4) zz w2 (by rw [hzz.out]; simp [mayF]; omega) (by rw [hzz.out]; simp) (by simp) (by omega)
  refine hC.mono ?_
  clear hC
  simp only [hkk.out, hzz.out]
  rintro e w3 ⟨Ad, rfl, Zd, b3⟩
  replace hBr0 := Nat.lt_of_lt_of_le hBr0 b3.size
  replace sl := sl.below b3
  replace Br := Br.under b3
  replace bb := bb.trans (b3.mono bb.size)
  have al := (Below.refl w3.heap.size w3).alloc (Nat.le_refl _) (.cells #[.int .i64 200, .slice Ad zz zz, .int .i64 (-1), .bool false, .int .i64 0] 36)
  have Bd := Blk.new w3 #[.int .i64 200, .slice Ad zz zz, .int .i64 (-1), .bool false, .int .i64 0] 36
  replace sl := sl.below al
  replace Br := Br.under al
  replace bb := bb.trans (al.mono bb.size)
  have hkd : kb + 1 < w3.heap.size := by
    omega
  replace Zd := (Zd.imp (F' := fun b => b ≠ w3.heap.size) (fun b hb _ => by omega)).below al
  go_wp2_with fail
  generalize w3.alloc (.cells #[.int .i64 200, .slice Ad zz zz, .int .i64 (-1), .bool false, .int .i64 0] 36) = w4 at *
  generalize w3.heap.size = kd at *
  clear b3 al
  have hzq : zz * q ≤ 100 := by
    have := Nat.mul_le_mul hz10.2 hq0.2
    omega
  have hF0 := fl_new (z := zz) (q := q) (s := kk + 20) hz10.1 (by omega)
  go_loopg [11] (zz * q + 1) (fun g iv wr => ∃ (m c j : Nat) (A : Option Addr) (d : Dp) (rss : List (List Rp)), m + g = zz * q + 1 ∧ iv = .int .i64 (m : Int) ∧ Hid (c * q + j = m) ∧ j < q ∧ Aside (Fl zz q (kk + 20) c j d rss) ∧ Blk wr kd #[.int .i64 200, .slice A zz zz, .int .i64 d.lf, .bool d.dw, .int .i64 d.dn] 36 ∧ Zs (fun b => b ≠ kd) wr A zz zz d.zs ∧ Blk wr (kb + 1) #[.int .i64 1, .int .i64 0, .slice (some ⟨kb, 0, none⟩) kk kk] 26 ∧ Sl wr (some ⟨kb, 0, none⟩) kk kk ((List.replicate kk (0 : UInt8)).map v8) ∧ Below w.heap.size w wr)
  case atStart => exact ⟨0, 0, 0, Ad, ⟨-1, 0, false, List.replicate zz zero4⟩, _, by omega, rfl, by show 0 * q + 0 = 0; omega, by omega, hF0, Bd, Zd, Br, sl, bb⟩
  case round =>
    clear hF0 Bd Zd Br sl bb
    obtain ⟨m, c, j, A, d, rss, hmg, rfl, hcj, hjq, hF, Bd, Zd, Br, sl, bb⟩ := hrel
    have hmz : m ≤ zz * q := by have := hF.out.cz; have := hcj.out; omega
    have hm500 : (m : Int) < 500 := by omega
    obtain ⟨p0, p1, p2, p3, p4, _⟩ := Bd.five
    obtain ⟨r0, r1, r2, _⟩ := Br.three
    have al := (Below.refl wr.heap.size wr).alloc (Nat.le_refl _) (.cells #[.int .i64 1, .int .i64 0, .slice (some ⟨kb, 0, none⟩) kk kk] 26)
    have Bm := Blk.new wr #[.int .i64 1, .int .i64 0, .slice (some ⟨kb, 0, none⟩) kk kk] 26
    replace Bd := Bd.under al
    replace Br := Br.under al
    replace Zd := Zd.below al
    replace sl := sl.below al
    replace bb := bb.trans (al.mono bb.size)
    go_wp2_with fail
    generalize wr.alloc (.cells #[.int .i64 1, .int .i64 0, .slice (some ⟨kb, 0, none⟩) kk kk] 26) = w5 at *
    have hRs : Rs recE (fun _ => True) w5 (some ⟨wr.heap.size, 0, none⟩) 1 1 [r] := by
      rw [hr]
      exact rs_rec1 (by simp) Bm sl
    have hC := gAppend_any 200 d A zz zz (some ⟨wr.heap.size, 0, none⟩) 1 1 [r] w5 (hT.below bb) Zd hRs (by omega) ⟨hF.out.lg.dev, by rw [hF.out.lg.lf]; decide⟩
    clear al Bm hRs p0 p1 p2 p3 p4 r0 r1 r2
    by_cases hlt : m < zz * q
    · obtain ⟨g, rfl⟩ : ∃ g, gk = g + 1 := ⟨gk - 1, by omega⟩
      obtain ⟨d2, pl, rss2, c2, j2, e1, e2, e3, e4⟩ := fl_step hF.out hrok hrb (by omega) hq1 hq2 hjq (by rw [hcj.out]; exact hlt)
      rw [e1] at hC
      have hcj2 : Hid (c2 * q + j2 = m + 1) := by
        show _ = _
        rw [e3, hcj.out]
      have hF2 : Aside (Fl zz q (kk + 20) c2 j2 d2 rss2) := e4
      clear e1 e3 e4 hcj hF
      refine hC.mono ?_
      clear hC
      rintro e w6 ⟨Ax, Ap, kp, cp, hkp, rfl, Zx, Rp2, b6⟩
      dsimp only at hkp Zx Rp2 ⊢
      replace hkp := Lib.hid hkp
      have al := (Below.refl w6.heap.size w6).alloc (Nat.le_refl _) (.cells #[.int .i64 200, .slice Ax zz zz, .int .i64 d2.lf, .bool d2.dw, .int .i64 d2.dn] 36)
      have hkl := Bd.lt
      replace Bd := (Bd.under b6).under al
      replace Br := (Br.under b6).under al
      replace sl := (sl.below b6).below al
      replace Zx := (Zx.imp (F' := fun b => b ≠ kd) (fun b _ hb => by omega)).below al
      replace bb := (bb.trans (b6.mono bb.size)).trans (al.mono (Nat.le_trans bb.size b6.size))
      have Bx := Blk.new w6 #[.int .i64 200, .slice Ax zz zz, .int .i64 d2.lf, .bool d2.dw, .int .i64 d2.dn] 36
      obtain ⟨x0, x1, x2, x3, x4, _⟩ := Bx.five
      obtain ⟨p0, p1, p2, p3, p4, f0, f1, f2, f3, f4⟩ := Bd.five
      go_upto_region 12 with (fail)
      generalize w6.alloc (.cells #[.int .i64 200, .slice Ax zz zz, .int .i64 d2.lf, .bool d2.dw, .int .i64 d2.dn] 36) = w7 at *
      have B9 := (((((Bd.set 0 (.int .i64 200)).set 1 (.slice Ax zz zz)).set 2 (.int .i64 d2.lf)).set 3 (.bool d2.dw)).set 4 (.int .i64 d2.dn))
      simp only [List.setIfInBounds_toArray, List.set_cons_zero, List.set_cons_succ] at B9
      have nk : ¬ (kd ≠ kd) := fun h => h rfl
      have Z9 := (((((Zx.far (a := ⟨kd, 0, none⟩) nk (.int .i64 200)).far (a := ⟨kd, 1, none⟩) nk (.slice Ax zz zz)).far (a := ⟨kd, 2, none⟩) nk (.int .i64 d2.lf)).far (a := ⟨kd, 3, none⟩) nk (.bool d2.dw)).far (a := ⟨kd, 4, none⟩) nk (.int .i64 d2.dn))
      have ne1 : kb + 1 ≠ kd := by omega
      have R9 := (((((Br.far (a := ⟨kd, 0, none⟩) ne1 (.int .i64 200)).far (a := ⟨kd, 1, none⟩) ne1 (.slice Ax zz zz)).far (a := ⟨kd, 2, none⟩) ne1 (.int .i64 d2.lf)).far (a := ⟨kd, 3, none⟩) ne1 (.bool d2.dw)).far (a := ⟨kd, 4, none⟩) ne1 (.int .i64 d2.dn))
      have ne2 : ∀ (i : Nat) (ad : Addr), (some ⟨kb, 0, none⟩ : Option Addr) = some ad → ad.block ≠ (⟨kd, i, none⟩ : Addr).block := fun i ad e => by
        cases e
        show kb ≠ kd
        omega
      have s9 := (((((sl.far (a := ⟨kd, 0, none⟩) (ne2 0) (.int .i64 200)).far (a := ⟨kd, 1, none⟩) (ne2 1) (.slice Ax zz zz)).far (a := ⟨kd, 2, none⟩) (ne2 2) (.int .i64 d2.lf)).far (a := ⟨kd, 3, none⟩) (ne2 3) (.bool d2.dw)).far (a := ⟨kd, 4, none⟩) (ne2 4) (.int .i64 d2.dn))
      have hwk : w.heap.size ≤ kd := by omega
      have b9 := (((((bb.setCell (p := ⟨kd, 0, none⟩) hwk (.int .i64 200)).setCell (p := ⟨kd, 1, none⟩) hwk (.slice Ax zz zz)).setCell (p := ⟨kd, 2, none⟩) hwk (.int .i64 d2.lf)).setCell (p := ⟨kd, 3, none⟩) hwk (.bool d2.dw)).setCell (p := ⟨kd, 4, none⟩) hwk (.int .i64 d2.dn))
      clear Bd Br sl Zx bb Bx
      go_wp2_with fail
      generalize (((((w7.setCell ⟨kd, 0, none⟩ (.int .i64 200)).setCell ⟨kd, 1, none⟩ (.slice Ax zz zz)).setCell ⟨kd, 2, none⟩ (.int .i64 d2.lf)).setCell ⟨kd, 3, none⟩ (.bool d2.dw)).setCell ⟨kd, 4, none⟩ (.int .i64 d2.dn)) = w8 at *
      go_roundg g
      case measure => omega
      case rel => exact ⟨m + 1, c2, j2, Ax, d2, rss2, by omega, by first | rfl | (simp; done), hcj2, e2, hF2, B9, Z9, R9, s9, b9⟩
    · have hmq : m = zz * q := by omega
      obtain ⟨e1, e2, e3⟩ := fl_end hF.out hrok hrb (by omega) hq1 hq2 hjq (by rw [hcj.out]; exact hmq)
      rw [e1] at hC
      obtain rfl : c = zz := e3
      obtain rfl : j = 0 := by have := hcj.out; omega
      obtain ⟨h1, ⟨h2, h3⟩, d3, h4⟩ := fl_reset hF.out hz10.1 hrok hrb (by omega) (by omega) hq2
      have hzm : ((c - 1 : Nat) : Int) = (c : Int) - 1 := by omega
      rw [hzm] at h1 h2 h3 h4
      have hdev := hF.out.lg.dev
      have hlf : Hid (d.lf = -1) := hF.out.lg.lf
      obtain ⟨y, hy⟩ : ∃ y, Hid (doS 200 d ⟨2, (c : Int) - 1, []⟩ = y) := ⟨_, rfl⟩
      have hyo := hy.out
      rw [hyo] at h2 h3 h4
      have h2' : Hid (y.lf = -1) := h2
      have h1' : Hid (doE 200 d ⟨2, (c : Int) - 1, []⟩ = 0) := h1
      have he0 : Hid (emptyF d.zs = 0) := e2
      have h4' : Hid (apS 200 y [r] = (d3, [((c : Int) - 1, 0)], 0)) := h4
      have hmq' : Hid (m = c * q) := hmq
      clear e1 e2 h1 h2 h4 hcj hF hmq hyo
      refine hC.mono ?_
      clear hC
      rintro e w6 ⟨Ax, Ap, kp, cp, hkp, rfl, Zx, Rp2, b6⟩
      dsimp only at hkp Zx Rp2 ⊢
      replace hkp := Lib.hid hkp
      have al := (Below.refl w6.heap.size w6).alloc (Nat.le_refl _) (.cells #[.int .i64 200, .slice Ax c c, .int .i64 d.lf, .bool d.dw, .int .i64 d.dn] 36)
      replace Bd := (Bd.under b6).under al
      replace Br := (Br.under b6).under al
      replace sl := (sl.below b6).below al
      replace Zd := (Zd.below b6).below al
      replace bb := (bb.trans (b6.mono bb.size)).trans (al.mono (Nat.le_trans bb.size b6.size))
      obtain ⟨p0, p1, p2, p3, p4, f0, f1, f2, f3, f4⟩ := Bd.five
      clear Zx Rp2 b6
      go_wp2_with fail
      generalize w6.alloc (.cells #[.int .i64 200, .slice Ax c c, .int .i64 d.lf, .bool d.dw, .int .i64 d.dn] 36) = w7 at *
      clear al
      refine (dDo_at 200 d.lf d.dn d.dw A c c d.zs 2 ((c : Int) - 1) none 0 0 [] y.lf y.dn y.dw y.zs 0 w7 Zd (sm_dev hdev) (Sl.nil _) (by omega) (by rw [hlf.out]; decide) (by rw [← hy.out]; rfl) (by rw [← hy.out]; rfl) (by rw [← hy.out]; rfl) (by rw [← hy.out]; rfl) (by rw [← h1'.out]; rfl)).mono ?_
      rintro e w8 ⟨Ay, rfl, Zy, b8⟩
      clear p0 p1 p2 p3 p4 f0 f1 f2 f3 f4
      have al := ((Below.refl w8.heap.size w8).alloc (Nat.le_refl _) (.cells #[.int .i64 200, .slice Ay c c, .int .i64 y.lf, .bool y.dw, .int .i64 y.dn] 36))
      have al2 := al.alloc al.size (.cells #[.int .i64 1, .int .i64 0, .slice (some ⟨kb, 0, none⟩) kk kk] 26)
      have By := Blk.new w8 #[.int .i64 200, .slice Ay c c, .int .i64 y.lf, .bool y.dw, .int .i64 y.dn] 36
      have Bm := Blk.new (w8.alloc (.cells #[.int .i64 200, .slice Ay c c, .int .i64 y.lf, .bool y.dw, .int .i64 y.dn] 36)) #[.int .i64 1, .int .i64 0, .slice (some ⟨kb, 0, none⟩) kk kk] 26
      simp only [World.size_alloc] at Bm
      obtain ⟨y0, y1, y2, y3, y4, _⟩ := By.five
      obtain ⟨r0, r1, r2, _⟩ := ((Br.under b8).under al).three
      replace Bd := (Bd.under b8).under al2
      replace sl := (sl.below b8).below al2
      replace Zd := (Zd.below b8).below al2
      replace Zy := Zy.below al2
      replace bb := (bb.trans (b8.mono bb.size)).trans (al2.mono (Nat.le_trans bb.size b8.size))
      go_wp2_with fail
      generalize (w8.alloc (.cells #[.int .i64 200, .slice Ay c c, .int .i64 y.lf, .bool y.dw, .int .i64 y.dn] 36)).alloc (.cells #[.int .i64 1, .int .i64 0, .slice (some ⟨kb, 0, none⟩) kk kk] 26) = w9 at *
      have hRs : Rs recE (fun _ => True) w9 (some ⟨w8.heap.size + 1, 0, none⟩) 1 1 [r] := by
        rw [hr]
        exact rs_rec1 (by simp) Bm sl
      have hC := gAppend_any 200 y Ay c c (some ⟨w8.heap.size + 1, 0, none⟩) 1 1 [r] w9 (hT.below bb) Zy hRs (by omega) ⟨h3, by rw [h2'.out]; decide⟩
      rw [h4'.out] at hC
      refine hC.mono ?_
      clear hC hRs Bm By y0 y1 y2 y3 y4 r0 r1 r2 al al2 b8 Br sl Zy
      rintro e w10 ⟨Az, Aq, kq, cq, hkq, rfl, Zz, Rq2, b10⟩
      dsimp only at hkq Zz Rq2 ⊢
      obtain rfl : 1 = kq := hkq.symm
      clear hkq
      have al := (Below.refl w10.heap.size w10).alloc (Nat.le_refl _) (.cells #[.int .i64 200, .slice Az c c, .int .i64 d3.lf, .bool d3.dw, .int .i64 d3.dn] 36)
      replace Bd := (Bd.under b10).under al
      replace Zd := (Zd.below b10).below al
      replace Rq2 := Rq2.below al
      replace bb := (bb.trans (b10.mono bb.size)).trans (al.mono (Nat.le_trans bb.size b10.size))
      obtain ⟨p0, p1, p2, p3, p4, _⟩ := Bd.five
      have hquo : (200 : Int) / ((kk : Int) + 20) = (q : Int) := by
        have := congrArg (fun n : Nat => (n : Int)) hq.out
        simpa using this
      have hquo2 : Int.tdiv 200 ((kk : Int) + 20) = (q : Int) := by
        rw [Int.tdiv_eq_ediv_of_nonneg (by omega)]
        exact hquo
      have hmul : (c : Int) * (q : Int) = (m : Int) := by
        rw [hmq'.out]
        simp
      obtain ⟨gp, op, pp, rfl, -, hgp, hpj, cp0⟩ := Rs.cp_at Rq2 (show 0 < 1 by omega)
      cases hpj
      obtain ⟨fa, hfa0⟩ : ∃ x, floatOfInt .f64 ((c : Int) - 1) = x := ⟨_, rfl⟩
      have hfb0 : floatOfInt .f64 0 = 0 := by kernel_rfl
      have hfe : (FloatKind.f64.format.order fa fa == some .eq) = true := by
        rw [← hfa0, ← hzm]
        exact fl_eq (by omega)
      have hf0 : (FloatKind.f64.format.order 0 0 == some .eq) = true := by kernel_rfl
      simp only [cpx, hfa0, hfb0, Nat.add_zero] at cp0
      have hcq := Rq2.cap
      have hcb := Rq2.big
      clear hzm
      go_wp2_with fail
      generalize w10.alloc (.cells #[.int .i64 200, .slice Az c c, .int .i64 d3.lf, .bool d3.dw, .int .i64 d3.dn] 36) = w11 at *
      refine (gEmpty_any 200 d.lf d.dn d.dw A c c d.zs w11 Zd).mono ?_
      rintro e w12 ⟨rfl, b12⟩
      rw [he0.out]
      have cp1 := (b12.cell (p := ⟨gp, op, none⟩) hgp).trans cp0
      clear p0 p1 p2 p3 p4 cp0
      go_wp2
      go_ret
      exact ⟨rfl, bb.trans (b12.mono bb.size)⟩

theorem LogFull_walk (a0 : Int) (a1 : Int) (w : World) (hT : Tab w) (w0 : (Lit.int .u8 a0).wf = true) (w1 : (Lit.int .u8 a1).wf = true) :
    Calls Tryd.prog 6 #[.int .u8 a0, .int .u8 a1] w (AwakePost w) := by
  have h0 := wf_u8 w0
  have h1 := wf_u8 w1
  exact LogFull_core a0 a1 w hT h0.1 (by omega) h1.1 (by omega)
end Go.Proofs.YtnejiclghnigiaaDoor
