/-
  LogFinds: the walk (written by gen_logfinds.py).
-/
import Derived.Test.YtnejiclghnigiaaDoorMergE
namespace Go.Proofs.YtnejiclghnigiaaDoor
open Go.RowKit Go.Wag
set_option linter.unusedVariables false
set_option maxRecDepth 20000

set_option maxHeartbeats 8000000 in
theorem LogFinds_core {F : Nat → Prop} (A : Option Addr) (n c : Nat) (ls : List Rp) (w : World) (hT : Tab w) (h : Rs recE F w A n c ls) :
    Calls Tryd.prog 4 #[.slice A n c] w (AwakePost w) := by
  obtain ⟨iR, hiR, hzR, hsR, hbR⟩ := iRec
  have hlen := h.len
  have hcap := h.cap
  have hbig := h.big
  go_enter Tryd.func4, Tryd.ntmps4
  go_wp2_with fail
  refine (awake6_any w hT).mono ?_
  rintro e w1 ⟨rfl, b1⟩
  go_wp2_with fail
  have hC := lbodies_any A n c ls w1 (h.below b1)
  cases hbd : bodF ls with
  | false =>
    rw [hbd] at hC
    refine hC.mono ?_
    rintro e w2 ⟨rfl, rfl⟩
    go_wp2
    go_ret
    exact ⟨rfl, b1⟩
  | true =>
    rw [hbd] at hC
    refine hC.mono ?_
    clear hC
    rintro e w2 ⟨rfl, rfl⟩
    have h20 := (bodF_all hbd).1
    clear hbd
    go_wp2_with fail
    refine (dNew_at 12 300 (List.replicate 12 zero4) 12 w1 (by decide) rfl rfl (by decide)).mono ?_
    rintro e w2 ⟨Ad, rfl, Zd, b2⟩
    have bb := b1.trans (b2.mono b1.size)
    have al := (Below.refl w2.heap.size w2).alloc (Nat.le_refl _) (.cells #[.int .i64 300, .slice Ad 12 12, .int .i64 (-1), .bool false, .int .i64 0] 36)
    have Bd := Blk.new w2 #[.int .i64 300, .slice Ad 12 12, .int .i64 (-1), .bool false, .int .i64 0] 36
    replace Zd := Zd.below al
    replace bb := bb.trans (al.mono bb.size)
    go_wp2_with fail
    generalize w2.alloc (.cells #[.int .i64 300, .slice Ad 12 12, .int .i64 (-1), .bool false, .int .i64 0] 36) = w3 at *
    generalize w2.heap.size = kd at *
    clear b1 b2 al
    have hsel0 : Hid (([] : List Rp) = selF (ls.take 0)) := rfl
    go_loopg [6, 7] n (fun g av iv wr => ∃ (k : Nat) (Aa : Option Addr) (ka ca : Nat) (ss : List Rp), k + g = n ∧ av = .slice Aa ka ca ∧ iv = .int .i64 (k : Int) ∧ ka ≤ k ∧ Hid (ss = selF (ls.take k)) ∧ Rq recE (fun _ => True) w3.heap.size 26 wr Aa ka ca ss ∧ Below w3.heap.size w3 wr)
    case atStart => exact ⟨0, none, 0, 0, [], by omega, rfl, rfl, Nat.le_refl _, hsel0, Rq.nil _ _ _ _ _, Below.refl _ _⟩
    case round =>
      clear hsel0
      obtain ⟨k, Aa, ka, ca, ss, hkg, rfl, rfl, hkk, hss, hR, br⟩ := hrel
      by_cases hlt : (k : Int) < (n : Int)
      · obtain ⟨g, rfl⟩ : ∃ g, gk = g + 1 := ⟨gk - 1, by omega⟩
        obtain ⟨gb, o, x, Ai, ci, rfl, hF, hg, hx, c0', c1', c2', hS, hA⟩ := Rs.rec_at h (show k < n by omega)
        have hbw := bb.trans (br.mono bb.size)
        have c0 := (hbw.cell hg).trans c0'
        have c1 := (hbw.cell hg).trans c1'
        have c2 := (hbw.cell hg).trans c2'
        have hkl : ss.length = ka := hR.len
        have hsn : Hid (selF (ls.take (k + 1)) = selS ss x) := by
          show selF _ = _
          rw [List.take_add_one, hx, Option.toList_some, selF_snoc, ← hss.out]
        clear c0' c1' c2' hx
        by_cases h60 : (x.l.length : Int) ≤ 60
        · have h60' : x.l.length ≤ 60 := by omega
          go_wp2_with fail
          refine (rCheck_any x.k x.s Ai x.l.length ci wr).mono ?_
          rintro e w4 ⟨rfl, b4⟩
          have hR4 := hR.under b4
          have br4 := br.trans (b4.mono br.size)
          have d0 := (b4.cell (Nat.lt_of_lt_of_le hg hbw.size)).trans c0
          have d1 := (b4.cell (Nat.lt_of_lt_of_le hg hbw.size)).trans c1
          have d2 := (b4.cell (Nat.lt_of_lt_of_le hg hbw.size)).trans c2
          cases hok : x.ok with
          | true =>
            have hce : rchkE x.k x.s x.l.length = 0 := by
              rw [rchkE, show rchk x.k x.s x.l.length = true from hok]
              rfl
            have hs2 : Hid (selF (ls.take (k + 1)) = ss ++ [⟨x.k, (ka : Int), x.l⟩]) := by
              show selF _ = _
              rw [hsn.out, selS, hok, decide_eq_true h60', hkl]
              rfl
            rw [hce]
            clear c0 c1 c2 hce hok hsn hss b4 hR br
            have a1 := (Below.refl w4.heap.size w4).alloc (Nat.le_refl _) (.cells #[.int .i64 x.k, .int .i64 (ka : Int), .slice Ai x.l.length ci] 26)
            have a2 := a1.alloc a1.size (.cells #[.int .i64 x.k, .int .i64 (ka : Int), .slice Ai x.l.length ci] 26)
            have Bs := Blk.new (w4.alloc (.cells #[.int .i64 x.k, .int .i64 (ka : Int), .slice Ai x.l.length ci] 26)) #[.int .i64 x.k, .int .i64 (ka : Int), .slice Ai x.l.length ci] 26
            simp only [World.size_alloc] at Bs
            have hlo := hR4.lt
            have hb3 := bb.size
            have hrd : recE.rd (fun b => True ∧ (Value.slice Aa ka ca).ownBlock ≠ some b) w [.int .i64 x.k, .int .i64 (ka : Int), .slice Ai x.l.length ci] ⟨x.k, (ka : Int), x.l⟩ := by
              refine ⟨Ai, ci, rfl, hS, fun hn ad e => ⟨trivial, fun e2 => ?_⟩⟩
              obtain ⟨ad', e', hb', _⟩ := hS.cells hn
              cases e.symm.trans e'
              have := (hlo _ e2).1
              omega
            have hrd2 := Elt.below (Elt.below hrd (bb.trans (br4.mono bb.size))) a2
            obtain ⟨A5, c5, w5, hrun, R5, gr, hl5⟩ := (hR4.under a2).app (P := Tryd.prog) (T := 30) (ty := 30) Tryd.underlying30 hiR hzR hsR hbR rfl (Nat.le_trans br4.size a2.size) (by omega) (by omega) hrd2 (one_rec _ _ _ _ _) Bs
            have hlo2 := (hR4.under a2).lt
            have br5 : Below w3.heap.size w3 w5 := (br4.trans (a2.mono br4.size)).grown gr (Nat.le_trans br4.size a2.size) (fun y hy => (hlo2 y hy).1)
            clear hrd hrd2 Bs hlo hlo2 a1 a2 gr hl5 hS hA hR4 br4 hb3 hbw
            go_wp2_with (at_builtin; first | (refine wpList_run rfl (.tmp 57) (.tmp 59) 30 rfl rfl rfl hrun ?_; intro _))
            go_roundg g
            case measure => omega
            case rel => exact ⟨k + 1, A5, ka + 1, c5, _, by omega, rfl, by first | rfl | (simp; done), by omega, hs2.out.symm, R5, br5⟩
          | false =>
            have hce : rchkE x.k x.s x.l.length = 50 := by
              rw [rchkE, show rchk x.k x.s x.l.length = false from hok]
              rfl
            have hs2 : Hid (ss = selF (ls.take (k + 1))) := by
              show ss = _
              rw [hsn.out, selS, hok, Bool.and_false]
              rfl
            rw [hce]
            clear c0 c1 c2 hce hok hsn hss
            go_wp2
            go_roundg g
            case measure => omega
            case rel => exact ⟨k + 1, Aa, ka, ca, ss, by omega, rfl, by first | rfl | (simp; done), by omega, hs2, hR4, br4⟩
        · have hs2 : Hid (ss = selF (ls.take (k + 1))) := by
            show ss = _
            rw [hsn.out, selS, decide_eq_false (by omega), Bool.false_and]
            rfl
          clear hsn hss
          go_wp2
          go_roundg g
          case measure => omega
          case rel => exact ⟨k + 1, Aa, ka, ca, ss, by omega, rfl, by first | rfl | (simp; done), by omega, hs2, hR, br⟩
      · have hsk : SelOk 20 ss := by
          have h1 := selF_ok ls (by omega)
          rw [hss.out, List.take_of_length_le (by omega)]
          exact ⟨Nat.le_trans h1.1 h20, h1.2⟩
        have hsA : Aside (SelOk 20 ss) := hsk
        have hka : Hid (ss.length = ka) := hR.len
        have hka20 : ka ≤ 20 := by have := hka.out; have := hsk.1; omega
        obtain ⟨y, hy⟩ : ∃ y, Hid (y = apS 300 ⟨-1, 0, false, List.replicate 12 zero4⟩ ss) := ⟨_, rfl⟩
        obtain ⟨q1, q2, q3, q4, q5⟩ := finds hsk y hy.out
        have bw := bb.trans (br.mono bb.size)
        have hRs := hR.toRs (fun _ _ _ => trivial)
        have hC := gAppend_any 300 ⟨-1, 0, false, List.replicate 12 zero4⟩ Ad 12 12 Aa ka ca ss wr (hT.below bw) (Zd.below br) hRs (by omega) ⟨by decide, by decide⟩
        rw [← hy.out] at hC
        replace Bd := Bd.under br
        obtain ⟨p0, p1, p2, p3, p4, _⟩ := Bd.five
        clear hss hsk hy hR h
        go_wp2_with fail
        refine hC.mono ?_
        clear hC p0 p1 p2 p3 p4 Bd Zd
        obtain ⟨dx, pl, er⟩ := y
        obtain ⟨lf2, dn2, dw2, zx⟩ := dx
        dsimp only at q1 q2 q3 q4 q5
        rintro e w4 ⟨Ax, Ap, kp, cp, hkp, rfl, Zx, Rp2, b4⟩
        dsimp only at hkp Zx Rp2 ⊢
        replace hkp := Lib.hid hkp
        have hpc := Rp2.cap
        have hpb := Rp2.big
        have bw4 := bw.trans (b4.mono bw.size)
        replace hRs := hRs.below b4
        have al := (Below.refl w4.heap.size w4).alloc (Nat.le_refl _) (.cells #[.int .i64 300, .slice Ax 12 12, .int .i64 lf2, .bool dw2, .int .i64 dn2] 36)
        have Bx := Blk.new w4 #[.int .i64 300, .slice Ax 12 12, .int .i64 lf2, .bool dw2, .int .i64 dn2] 36
        obtain ⟨p0, p1, p2, p3, p4, _⟩ := Bx.five
        replace Zx := Zx.below al
        replace Rp2 := Rp2.below al
        replace hRs := hRs.below al
        replace bw4 := bw4.trans (al.mono bw4.size)
        have hrc := hRs.cap
        have hrb := hRs.big
        clear b4 al bw br bb
        go_wp2_with fail
        generalize w4.alloc (.cells #[.int .i64 300, .slice Ax 12 12, .int .i64 lf2, .bool dw2, .int .i64 dn2] 36) = w5 at *
        generalize w4.heap.size = kx at *
        obtain ⟨xs, hxs⟩ : ∃ x, Hid (allF zx = x) := ⟨_, rfl⟩
        refine (gAll_any 300 lf2 dn2 dw2 Ax 12 12 zx xs w5 (hT.below bw4) Zx q1 hxs.out q3).mono ?_
        rintro e w6 ⟨Al, kl, cl, hkl, rfl, Rl, b6⟩
        clear p0 p1 p2 p3 p4
        replace hkl := Lib.hid hkl
        replace bw4 := bw4.trans (b6.mono bw4.size)
        replace Zx := Zx.below b6
        replace Rp2 := Rp2.below b6
        replace hRs := hRs.below b6
        replace Bx := Bx.under b6
        have hlc := Rl.cap
        have hlb := Rl.big
        clear b6
        by_cases he : er = 0
        · subst he
          obtain ⟨q6, Z, hZ⟩ := q5 rfl
          obtain rfl : xs = Z := hxs.out.symm.trans hZ.all
          obtain rfl : kp = ka := by rw [hkp.out, q6, hka.out]
          obtain rfl : kl = kp := by rw [hkl.out, hZ.len, hka.out]
          have hZA : Aside (Fnd zx ss pl xs) := hZ
          have hSmx := sm_dev q1
          clear q1 q2 q3 q4 q5 q6 hxs hZ
          go_wp2_with fail
          go_loopg [14] kl (fun g iv wr => ∃ j : Nat, j + g = kl ∧ iv = .int .i64 (j : Int) ∧ Below w6.heap.size w6 wr)
          case atStart => exact ⟨0, by omega, rfl, Below.refl _ _⟩
          case round =>
            obtain ⟨j, hj, rfl, br⟩ := hrel
            have bw7 := bw4.trans (br.mono bw4.size)
            by_cases hltj : (j : Int) < (kl : Int)
            · obtain ⟨g, rfl⟩ : ∃ g, gk = g + 1 := ⟨gk - 1, by omega⟩
              have hjl : j < kl := by omega
              obtain ⟨gs, os_, r, Ai2, ci2, rfl, -, hgs, hrj, z0', z1', z2', hS2, -⟩ := Rs.rec_at hRs hjl
              obtain ⟨gp, op, pp, rfl, -, hgp, hpj, cp0⟩ := Rs.cp_at Rp2 hjl
              obtain ⟨gf, of_, f, Af, cf, rfl, -, hgf, hfj, y0', y1', y2', y3', y4', hSf, -⟩ := Rs.fnd_at Rl hjl
              obtain ⟨zk, za, e1, e2, hzk, hza, hrdo', hrdf'⟩ := hZA.out.at_ j r hrj
              cases hpj.symm.trans e1
              cases hfj.symm.trans e2
              obtain ⟨-, hr60, hrok⟩ := hsA.out.2 j r hrj
              obtain ⟨L, hL⟩ : ∃ l, Hid (recB r = l) := ⟨_, rfl⟩
              obtain ⟨nb, hLn⟩ : ∃ k, Hid (L.length = k) := ⟨_, rfl⟩
              have hnb : nb ≤ 100 := by have := hLn.out; rw [← hL.out, recB_length] at this; omega
              rw [hL.out, hLn.out] at hrdo' hrdf'
              have hrdo := Lib.hid hrdo'
              have hrdf := Lib.hid hrdf'
              obtain ⟨fa, hfa0⟩ : ∃ x, floatOfInt .f64 (zk : Int) = x := ⟨_, rfl⟩
              obtain ⟨fb, hfb0⟩ : ∃ x, floatOfInt .f64 (za : Int) = x := ⟨_, rfl⟩
              have hfa : floatToIntVal .f64 fa .i64 = some (zk : Int) := by rw [← hfa0]; exact fl_back (by omega)
              have hfb : floatToIntVal .f64 fb .i64 = some (za : Int) := by rw [← hfb0]; exact fl_back (by omega)
              have hfe : (FloatKind.f64.format.order fa fa == some .eq) = true := by rw [← hfa0]; exact fl_eq (by omega)
              have hfg : (FloatKind.f64.format.order fb fb == some .eq) = true := by rw [← hfb0]; exact fl_eq (by omega)
              simp only [cpx, hfa0, hfb0] at cp0
              have z0 := (br.cell hgs).trans z0'
              have z1 := (br.cell hgs).trans z1'
              have z2 := (br.cell hgs).trans z2'
              clear hrdo' hrdf' e1 e2 hpj hfj hrj
              go_wp2_with fail
              have hC := BytesErr.ok (rWrite_any r.k r.s Ai2 r.l.length ci2 r.l wr (hT.below bw7) (hS2.below br)) (wrF_yes (r := r) hrok)
              rw [hL.out] at hC
              refine hC.mono ?_
              clear hC
              rintro e v1 ⟨Aw, nw, cw, rfl, sw, _, bv⟩
              obtain rfl : nb = nw := hLn.out.symm.trans sw.len8
              have b1 := br.trans (bv.mono br.size)
              have Zx1 := Zx.below b1
              have Bx1 := Bx.under b1
              have cp1 := (b1.cell (p := ⟨gp, op + j, none⟩) hgp).trans cp0
              have hgp1 := Nat.lt_of_lt_of_le hgp b1.size
              clear z0 z1 z2 bv
              go_wp2_with fail
              refine wp_region_held_drew (S := fun w' => Below v1.heap.size v1 w') (by kernel_rfl) (Below.refl _ _).drew (fun hHeld => ?_)
              try dsimp only at hHeld
              have bd : Below v1.heap.size v1 v1.drew := (Below.refl v1.heap.size v1).drew
              generalize v1.drew = wd at *
              try simp only [Act.put, List.setIfInBounds_toArray, List.set_cons_zero, List.set_cons_succ]
              refine wpAnyH_take (i := 0) (v := ?_) (by simp only [List.getElem?_toArray, List.getElem?_cons_zero]; rfl) (by kernel_rfl) (by kernel_rfl) (by kernel_rfl) (by intro _ _ _ h; exact h) (Or.inl ⟨by rfl, ?_⟩) hHeld ?_
              rotate_left 1
              · intro wq hSw
                try dsimp only at hSw
                obtain ⟨x0, x1, x2, x3, x4, _⟩ := (Bx1.under hSw).five
                go_simp
                try (with_reducible rfl)
              try simp only [Act.put, List.setIfInBounds_toArray, List.set_cons_zero, List.set_cons_succ]
              refine wpAnyH_take (i := 1) (v := ?_) (by simp only [List.getElem?_toArray, List.getElem?_cons_succ, List.getElem?_cons_zero]; rfl) (by kernel_rfl) (by kernel_rfl) (by kernel_rfl) (by intro _ _ _ h; exact h) (Or.inl ⟨by rfl, ?_⟩) hHeld ?_
              rotate_left 1
              · intro wq hSw
                try dsimp only at hSw
                go_simp
                try (with_reducible rfl)
              try simp only [Act.put, List.setIfInBounds_toArray, List.set_cons_zero, List.set_cons_succ]
              refine wpAnyH_take (i := 2) (v := ?_) (by simp only [List.getElem?_toArray, List.getElem?_cons_succ, List.getElem?_cons_zero]; rfl) (by kernel_rfl) (by kernel_rfl) (by kernel_rfl) (by intro _ _ _ h; exact h) (Or.inl ⟨by rfl, ?_⟩) hHeld ?_
              rotate_left 1
              · intro wq hSw
                try dsimp only at hSw
                go_simp
                try (with_reducible rfl)
              try simp only [Act.put, List.setIfInBounds_toArray, List.set_cons_zero, List.set_cons_succ]
              refine wpAnyH_take (i := 3) (v := .pointer (some ⟨gp, op + j, none⟩)) (by simp only [List.getElem?_toArray, List.getElem?_cons_succ, List.getElem?_cons_zero]; rfl) (by kernel_rfl) (by kernel_rfl) (by kernel_rfl) (by intro _ _ _ h; exact h) (Or.inl ⟨by rfl, ?_⟩) hHeld ?_
              · intro wq hSw
                try dsimp only at hSw
                go_simp
                all_goals (first | (with_reducible rfl) | (intro hh; exfalso; omega))
              try simp only [Act.put, List.setIfInBounds_toArray, List.set_cons_zero, List.set_cons_succ]
              refine wpAnyH_take (i := 4) (v := ?_) (by simp only [List.getElem?_toArray, List.getElem?_cons_succ, List.getElem?_cons_zero]; rfl) (by kernel_rfl) (by kernel_rfl) (by kernel_rfl) (by intro _ _ _ h; exact h) (Or.inl ⟨by rfl, ?_⟩) hHeld ?_
              rotate_left 1
              · intro wq hSw
                try dsimp only at hSw
                have x0 := (hSw.cell hgp1).trans cp1
                go_simp
                try (with_reducible rfl)
              try simp only [Act.put, List.setIfInBounds_toArray, List.set_cons_zero, List.set_cons_succ]
              refine wpAnyH_take (i := 5) (v := ?_) (by simp only [List.getElem?_toArray, List.getElem?_cons_succ, List.getElem?_cons_zero]; rfl) (by kernel_rfl) (by kernel_rfl) (by kernel_rfl) (by intro _ _ _ h; exact h) (Or.inl ⟨by rfl, ?_⟩) hHeld ?_
              rotate_left 1
              · intro wq hSw
                try dsimp only at hSw
                go_simp
                try (with_reducible rfl)
              try simp only [Act.put, List.setIfInBounds_toArray, List.set_cons_zero, List.set_cons_succ]
              refine wpAnyH_take (i := 6) (v := .int .i64 (zk : Int)) (by simp only [List.getElem?_toArray, List.getElem?_cons_succ, List.getElem?_cons_zero]; rfl) (by kernel_rfl) (by kernel_rfl) (by kernel_rfl) (by intro _ _ _ h; exact h) (Or.inl ⟨by rfl, ?_⟩) hHeld ?_
              · intro wq hSw
                try dsimp only at hSw
                go_simp
                all_goals (rw [run_convert_float_int (src := 49) (dst := 3) (s := .f64) (k := .i64) (b := fa) (n := (zk : Int)) (hs := by kernel_rfl) (hd := Tryd.underlying3) (h := hfa)]; rfl)
              try simp only [Act.put, List.setIfInBounds_toArray, List.set_cons_zero, List.set_cons_succ]
              refine wpAnyH_take (i := 7) (v := ?_) (by simp only [List.getElem?_toArray, List.getElem?_cons_succ, List.getElem?_cons_zero]; rfl) (by kernel_rfl) (by kernel_rfl) (by kernel_rfl) (by intro _ _ _ h; exact h) (Or.inl ⟨by rfl, ?_⟩) hHeld ?_
              rotate_left 1
              · intro wq hSw
                try dsimp only at hSw
                go_simp
                try (with_reducible rfl)
              try simp only [Act.put, List.setIfInBounds_toArray, List.set_cons_zero, List.set_cons_succ]
              refine wpAnyH_take (i := 8) (v := ?_) (by simp only [List.getElem?_toArray, List.getElem?_cons_succ, List.getElem?_cons_zero]; rfl) (by kernel_rfl) (by kernel_rfl) (by kernel_rfl) (by intro _ _ _ h; exact h) (Or.inl ⟨by rfl, ?_⟩) hHeld ?_
              rotate_left 1
              · intro wq hSw
                try dsimp only at hSw
                go_simp
                try (with_reducible rfl)
              try simp only [Act.put, List.setIfInBounds_toArray, List.set_cons_zero, List.set_cons_succ]
              refine wpAnyH_take (i := 9) (v := .pointer (some ⟨gp, op + j, none⟩)) (by simp only [List.getElem?_toArray, List.getElem?_cons_succ, List.getElem?_cons_zero]; rfl) (by kernel_rfl) (by kernel_rfl) (by kernel_rfl) (by intro _ _ _ h; exact h) (Or.inl ⟨by rfl, ?_⟩) hHeld ?_
              · intro wq hSw
                try dsimp only at hSw
                go_simp
                all_goals (first | (with_reducible rfl) | (intro hh; exfalso; omega))
              try simp only [Act.put, List.setIfInBounds_toArray, List.set_cons_zero, List.set_cons_succ]
              refine wpAnyH_take (i := 10) (v := ?_) (by simp only [List.getElem?_toArray, List.getElem?_cons_succ, List.getElem?_cons_zero]; rfl) (by kernel_rfl) (by kernel_rfl) (by kernel_rfl) (by intro _ _ _ h; exact h) (Or.inl ⟨by rfl, ?_⟩) hHeld ?_
              rotate_left 1
              · intro wq hSw
                try dsimp only at hSw
                have x0 := (hSw.cell hgp1).trans cp1
                go_simp
                try (with_reducible rfl)
              try simp only [Act.put, List.setIfInBounds_toArray, List.set_cons_zero, List.set_cons_succ]
              refine wpAnyH_take (i := 11) (v := ?_) (by simp only [List.getElem?_toArray, List.getElem?_cons_succ, List.getElem?_cons_zero]; rfl) (by kernel_rfl) (by kernel_rfl) (by kernel_rfl) (by intro _ _ _ h; exact h) (Or.inl ⟨by rfl, ?_⟩) hHeld ?_
              rotate_left 1
              · intro wq hSw
                try dsimp only at hSw
                go_simp
                try (with_reducible rfl)
              try simp only [Act.put, List.setIfInBounds_toArray, List.set_cons_zero, List.set_cons_succ]
              refine wpAnyH_take (i := 12) (v := .int .i64 (za : Int)) (by simp only [List.getElem?_toArray, List.getElem?_cons_succ, List.getElem?_cons_zero]; rfl) (by kernel_rfl) (by kernel_rfl) (by kernel_rfl) (by intro _ _ _ h; exact h) (Or.inl ⟨by rfl, ?_⟩) hHeld ?_
              · intro wq hSw
                try dsimp only at hSw
                go_simp
                all_goals (rw [run_convert_float_int (src := 49) (dst := 3) (s := .f64) (k := .i64) (b := fb) (n := (za : Int)) (hs := by kernel_rfl) (hd := Tryd.underlying3) (h := hfb)]; rfl)
              try simp only [Act.put, List.setIfInBounds_toArray, List.set_cons_zero, List.set_cons_succ]
              refine wpAnyH_take (i := 13) (v := ?_) (by simp only [List.getElem?_toArray, List.getElem?_cons_succ, List.getElem?_cons_zero]; rfl) (by kernel_rfl) (by kernel_rfl) (by kernel_rfl) (by intro _ _ _ h; exact h) (Or.inl ⟨by rfl, ?_⟩) hHeld ?_
              rotate_left 1
              · intro wq hSw
                try dsimp only at hSw
                go_simp
                try (with_reducible rfl)
              try simp only [Act.put, List.setIfInBounds_toArray, List.set_cons_zero, List.set_cons_succ]
              refine wpAnyH_take (i := 14) (v := ?_) (by simp only [List.getElem?_toArray, List.getElem?_cons_succ, List.getElem?_cons_zero]; rfl) (by kernel_rfl) (by kernel_rfl) (by kernel_rfl) (by intro _ _ _ h; exact h) (Or.inl ⟨by rfl, ?_⟩) hHeld ?_
              rotate_left 1
              · intro wq hSw
                try dsimp only at hSw
                go_simp
                try (with_reducible rfl)
              try simp only [Act.put, List.setIfInBounds_toArray, List.set_cons_zero, List.set_cons_succ]
              refine wpAnyH_ready (rs := [15]) (by kernel_rfl) (by simp) ?_
              refine AllReadyH.cons (by simp only [List.getElem?_toArray, List.getElem?_cons_succ, List.getElem?_cons_zero]; rfl) (fun K hK => ?_) AllReadyH.nil
              have hC := dRead_ok 300 lf2 dn2 dw2 Ax 12 12 zx (zk : Int) (za : Int) (nb : Int) L nb wd (Zx1.below bd) hSmx (by omega) (by omega) hrdo.out hrdf.out hLn.out
              go_simp
              refine hC.mono ?_
              clear hC
              rintro e v2 ⟨Aq, cq, rfl, Nq, bq⟩
              go_wp2_with fail
              refine hK.out _ _ (bd.trans (bq.mono bd.size)) (fun hHeld => ?_)
              clear hK K
              try dsimp only at hHeld
              try simp only [Act.put, List.setIfInBounds_toArray, List.set_cons_zero, List.set_cons_succ]
              refine wpAnyH_take (i := 16) (v := ?_) (by simp only [List.getElem?_toArray, List.getElem?_cons_succ, List.getElem?_cons_zero]; rfl) (by kernel_rfl) (by kernel_rfl) (by kernel_rfl) (by intro _ _ _ h; exact h) (Or.inl ⟨by rfl, ?_⟩) hHeld ?_
              rotate_left 1
              · intro wq hSw
                try dsimp only at hSw
                go_simp
                try (with_reducible rfl)
              try simp only [Act.put, List.setIfInBounds_toArray, List.set_cons_zero, List.set_cons_succ]
              refine wpAnyH_take (i := 17) (v := ?_) (by simp only [List.getElem?_toArray, List.getElem?_cons_succ, List.getElem?_cons_zero]; rfl) (by kernel_rfl) (by kernel_rfl) (by kernel_rfl) (by intro _ _ _ h; exact h) (Or.inl ⟨by rfl, ?_⟩) hHeld ?_
              rotate_left 1
              · intro wq hSw
                try dsimp only at hSw
                go_simp
                try (with_reducible rfl)
              try simp only [Act.put, List.setIfInBounds_toArray, List.set_cons_zero, List.set_cons_succ]
              refine wpAnyH_take (i := 18) (v := ?_) (by simp only [List.getElem?_toArray, List.getElem?_cons_succ, List.getElem?_cons_zero]; rfl) (by kernel_rfl) (by kernel_rfl) (by kernel_rfl) (by intro _ _ _ h; exact h) (Or.inl ⟨by rfl, ?_⟩) hHeld ?_
              rotate_left 1
              · intro wq hSw
                try dsimp only at hSw
                go_simp
                try (with_reducible rfl)
              try simp only [Act.put, List.setIfInBounds_toArray, List.set_cons_zero, List.set_cons_succ]
              refine wpAnyH_take (i := 19) (v := ?_) (by simp only [List.getElem?_toArray, List.getElem?_cons_succ, List.getElem?_cons_zero]; rfl) (by kernel_rfl) (by kernel_rfl) (by kernel_rfl) (by intro _ _ _ h; exact h) (Or.inl ⟨by rfl, ?_⟩) hHeld ?_
              rotate_left 1
              · intro wq hSw
                try dsimp only at hSw
                go_simp
                try (with_reducible rfl)
              try simp only [Act.put, List.setIfInBounds_toArray, List.set_cons_zero, List.set_cons_succ]
              refine wpAnyH_take (i := 20) (v := ?_) (by simp only [List.getElem?_toArray, List.getElem?_cons_succ, List.getElem?_cons_zero]; rfl) (by kernel_rfl) (by kernel_rfl) (by kernel_rfl) (by intro _ _ _ h; exact h) (Or.inl ⟨by rfl, ?_⟩) hHeld ?_
              rotate_left 1
              · intro wq hSw
                try dsimp only at hSw
                go_simp
                try (with_reducible rfl)
              try simp only [Act.put, List.setIfInBounds_toArray, List.set_cons_zero, List.set_cons_succ]
              refine wpAnyH_done (by kernel_rfl) ?_ _
              have b3 := b1.trans ((bd.trans (bq.mono bd.size)).mono b1.size)
              have sw3 := sw.below (bd.trans (bq.mono bd.size))
              have sq3 := Sl.of_own Nq
              have hgp2 := Nat.lt_of_lt_of_le hgp b3.size
              clear Zx1 Bx1 cp1 hgp1 b1 hHeld bd Nq bq sw
              go_wp2_with fail
              generalize v2 = v3 at *
              have hSf3 := hSf.below b3
              have hS3 := hS2.below b3
              have y0 := (b3.cell hgf).trans y0'
              have y1 := (b3.cell hgf).trans y1'
              have y2 := (b3.cell hgf).trans y2'
              have z0 := (b3.cell hgs).trans z0'
              have z1 := (b3.cell hgs).trans z1'
              have z2 := (b3.cell hgs).trans z2'
              have hgf3 := Nat.lt_of_lt_of_le hgf b3.size
              have hgb3 := Nat.lt_of_lt_of_le hgs b3.size
              refine wp_region_held_drew (S := fun w' => Below v3.heap.size v3 w') (by kernel_rfl) (Below.refl _ _).drew (fun hHeld => ?_)
              try dsimp only at hHeld
              have bd : Below v3.heap.size v3 v3.drew := (Below.refl v3.heap.size v3).drew
              generalize v3.drew = wd at *
              try simp only [Act.put, List.setIfInBounds_toArray, List.set_cons_zero, List.set_cons_succ]
              refine wpAnyH_take (i := 0) (v := ?_) (by simp only [List.getElem?_toArray, List.getElem?_cons_zero]; rfl) (by kernel_rfl) (by kernel_rfl) (by kernel_rfl) (by intro _ _ _ h; exact h) (Or.inl ⟨by rfl, ?_⟩) hHeld ?_
              rotate_left 1
              · intro wq hSw
                try dsimp only at hSw
                go_simp
                try (with_reducible rfl)
              try simp only [Act.put, List.setIfInBounds_toArray, List.set_cons_zero, List.set_cons_succ]
              refine wpAnyH_take (i := 1) (v := ?_) (by simp only [List.getElem?_toArray, List.getElem?_cons_succ, List.getElem?_cons_zero]; rfl) (by kernel_rfl) (by kernel_rfl) (by kernel_rfl) (by intro _ _ _ h; exact h) (Or.inl ⟨by rfl, ?_⟩) hHeld ?_
              rotate_left 1
              · intro wq hSw
                try dsimp only at hSw
                go_simp
                try (with_reducible rfl)
              try simp only [Act.put, List.setIfInBounds_toArray, List.set_cons_zero, List.set_cons_succ]
              refine wpAnyH_take (i := 2) (v := .pointer (some ⟨gf, of_ + j * 5, none⟩)) (by simp only [List.getElem?_toArray, List.getElem?_cons_succ, List.getElem?_cons_zero]; rfl) (by kernel_rfl) (by kernel_rfl) (by kernel_rfl) (by intro _ _ _ h; exact h) (Or.inl ⟨by rfl, ?_⟩) hHeld ?_
              · intro wq hSw
                try dsimp only at hSw
                go_simp
                all_goals (first | (with_reducible rfl) | (intro hh; exfalso; omega))
              try simp only [Act.put, List.setIfInBounds_toArray, List.set_cons_zero, List.set_cons_succ]
              refine wpAnyH_take (i := 3) (v := ?_) (by simp only [List.getElem?_toArray, List.getElem?_cons_succ, List.getElem?_cons_zero]; rfl) (by kernel_rfl) (by kernel_rfl) (by kernel_rfl) (by intro _ _ _ h; exact h) (Or.inl ⟨by rfl, ?_⟩) hHeld ?_
              rotate_left 1
              · intro wq hSw
                try dsimp only at hSw
                go_simp
                try (with_reducible rfl)
              try simp only [Act.put, List.setIfInBounds_toArray, List.set_cons_zero, List.set_cons_succ]
              refine wpAnyH_take (i := 4) (v := ?_) (by simp only [List.getElem?_toArray, List.getElem?_cons_succ, List.getElem?_cons_zero]; rfl) (by kernel_rfl) (by kernel_rfl) (by kernel_rfl) (by intro _ _ _ h; exact h) (Or.inl ⟨by rfl, ?_⟩) hHeld ?_
              rotate_left 1
              · intro wq hSw
                try dsimp only at hSw
                have x0 := (hSw.cell hgf3).trans y0
                have x1 := (hSw.cell hgf3).trans y1
                have x2 := (hSw.cell hgf3).trans y2
                go_simp
                try (with_reducible rfl)
              try simp only [Act.put, List.setIfInBounds_toArray, List.set_cons_zero, List.set_cons_succ]
              refine wpAnyH_take (i := 5) (v := ?_) (by simp only [List.getElem?_toArray, List.getElem?_cons_succ, List.getElem?_cons_zero]; rfl) (by kernel_rfl) (by kernel_rfl) (by kernel_rfl) (by intro _ _ _ h; exact h) (Or.inl ⟨by rfl, ?_⟩) hHeld ?_
              rotate_left 1
              · intro wq hSw
                try dsimp only at hSw
                go_simp
                try (with_reducible rfl)
              try simp only [Act.put, List.setIfInBounds_toArray, List.set_cons_zero, List.set_cons_succ]
              refine wpAnyH_take (i := 6) (v := ?_) (by simp only [List.getElem?_toArray, List.getElem?_cons_succ, List.getElem?_cons_zero]; rfl) (by kernel_rfl) (by kernel_rfl) (by kernel_rfl) (by intro _ _ _ h; exact h) (Or.inl ⟨by rfl, ?_⟩) hHeld ?_
              rotate_left 1
              · intro wq hSw
                try dsimp only at hSw
                go_simp
                try (with_reducible rfl)
              try simp only [Act.put, List.setIfInBounds_toArray, List.set_cons_zero, List.set_cons_succ]
              refine wpAnyH_take (i := 7) (v := .pointer (some ⟨gs, os_ + j * 3, none⟩)) (by simp only [List.getElem?_toArray, List.getElem?_cons_succ, List.getElem?_cons_zero]; rfl) (by kernel_rfl) (by kernel_rfl) (by kernel_rfl) (by intro _ _ _ h; exact h) (Or.inl ⟨by rfl, ?_⟩) hHeld ?_
              · intro wq hSw
                try dsimp only at hSw
                go_simp
                all_goals (first | (with_reducible rfl) | (intro hh; exfalso; omega))
              try simp only [Act.put, List.setIfInBounds_toArray, List.set_cons_zero, List.set_cons_succ]
              refine wpAnyH_take (i := 8) (v := ?_) (by simp only [List.getElem?_toArray, List.getElem?_cons_succ, List.getElem?_cons_zero]; rfl) (by kernel_rfl) (by kernel_rfl) (by kernel_rfl) (by intro _ _ _ h; exact h) (Or.inl ⟨by rfl, ?_⟩) hHeld ?_
              rotate_left 1
              · intro wq hSw
                try dsimp only at hSw
                have x0 := (hSw.cell hgb3).trans z0
                have x1 := (hSw.cell hgb3).trans z1
                have x2 := (hSw.cell hgb3).trans z2
                go_simp
                try (with_reducible rfl)
              try simp only [Act.put, List.setIfInBounds_toArray, List.set_cons_zero, List.set_cons_succ]
              refine wpAnyH_ready (rs := [9]) (by kernel_rfl) (by simp) ?_
              refine AllReadyH.cons (by simp only [List.getElem?_toArray, List.getElem?_cons_succ, List.getElem?_cons_zero]; rfl) (fun K hK => ?_) AllReadyH.nil
              have hC := recSame_any r.k r.s Af r.l.length cf r.l r.k r.s Ai2 r.l.length ci2 r.l wd (hSf3.below bd) (hS3.below bd)
              rw [sameR_self] at hC
              go_simp
              refine hC.mono ?_
              clear hC
              rintro e v4 ⟨rfl, b9⟩
              go_wp2_with fail
              refine hK.out _ _ (bd.trans (b9.mono bd.size)) (fun hHeld => ?_)
              clear hK K
              try dsimp only at hHeld
              try simp only [Act.put, List.setIfInBounds_toArray, List.set_cons_zero, List.set_cons_succ]
              refine wpAnyH_take (i := 10) (v := ?_) (by simp only [List.getElem?_toArray, List.getElem?_cons_succ, List.getElem?_cons_zero]; rfl) (by kernel_rfl) (by kernel_rfl) (by kernel_rfl) (by intro _ _ _ h; exact h) (Or.inl ⟨by rfl, ?_⟩) hHeld ?_
              rotate_left 1
              · intro wq hSw
                try dsimp only at hSw
                go_simp
                try (with_reducible rfl)
              try simp only [Act.put, List.setIfInBounds_toArray, List.set_cons_zero, List.set_cons_succ]
              refine wpAnyH_done (by kernel_rfl) ?_ _
              have b49 := bd.trans (b9.mono bd.size)
              have b5 := b3.trans (b49.mono b3.size)
              have sw5 := sw3.below b49
              have sq5 := sq3.below b49
              have cp5 := (b5.cell (p := ⟨gp, op + j, none⟩) hgp).trans cp0
              have hgp5 := Nat.lt_of_lt_of_le hgp b5.size
              have y3 := (b5.cell hgf).trans y3'
              have y4 := (b5.cell hgf).trans y4'
              have hgf5 := Nat.lt_of_lt_of_le hgf b5.size
              clear y0 y1 y2 z0 z1 z2 hSf3 hS3 hgf3 hgb3 hHeld bd b9 b49 sw3 sq3 hgp2 b3
              go_wp2_with fail
              generalize v4 = v5 at *
              have qq := fun W (h : Below v5.heap.size v5 W) => str_of (sq5.below h)
              have qb := fun W (h : Below v5.heap.size v5 W) => str_of (sw5.below h)
              refine wp_region_held_drew (S := fun w' => Below v5.heap.size v5 w') (by kernel_rfl) (Below.refl _ _).drew (fun hHeld => ?_)
              try dsimp only at hHeld
              have bd : Below v5.heap.size v5 v5.drew := (Below.refl v5.heap.size v5).drew
              generalize v5.drew = wd at *
              try simp only [Act.put, List.setIfInBounds_toArray, List.set_cons_zero, List.set_cons_succ]
              refine wpAnyH_take (i := 0) (v := ?_) (by simp only [List.getElem?_toArray, List.getElem?_cons_zero]; rfl) (by kernel_rfl) (by kernel_rfl) (by kernel_rfl) (by intro _ _ _ h; exact h) (Or.inl ⟨by rfl, ?_⟩) hHeld ?_
              rotate_left 1
              · intro wq hSw
                try dsimp only at hSw
                go_simp
                try (with_reducible rfl)
              try simp only [Act.put, List.setIfInBounds_toArray, List.set_cons_zero, List.set_cons_succ]
              refine wpAnyH_take (i := 1) (v := .bool false) (by simp only [List.getElem?_toArray, List.getElem?_cons_succ, List.getElem?_cons_zero]; rfl) (by kernel_rfl) (by kernel_rfl) (by kernel_rfl) (by intro _ _ _ h; exact h) (Or.inl ⟨by rfl, ?_⟩) hHeld ?_
              · intro wq hSw
                try dsimp only at hSw
                go_simp
                all_goals (first | (with_reducible rfl) | omega | (simp; done) | (simp; omega))
              try simp only [Act.put, List.setIfInBounds_toArray, List.set_cons_zero, List.set_cons_succ]
              refine wpAnyH_take (i := 2) (v := ?_) (by simp only [List.getElem?_toArray, List.getElem?_cons_succ, List.getElem?_cons_zero]; rfl) (by kernel_rfl) (by kernel_rfl) (by kernel_rfl) (by intro _ _ _ h; exact h) (Or.inl ⟨by rfl, ?_⟩) hHeld ?_
              rotate_left 1
              · intro wq hSw
                try dsimp only at hSw
                go_simp
                try (with_reducible rfl)
              try simp only [Act.put, List.setIfInBounds_toArray, List.set_cons_zero, List.set_cons_succ]
              refine wpAnyH_take (i := 3) (v := ?_) (by simp only [List.getElem?_toArray, List.getElem?_cons_succ, List.getElem?_cons_zero]; rfl) (by kernel_rfl) (by kernel_rfl) (by kernel_rfl) (by intro _ _ _ h; exact h) (Or.inl ⟨by rfl, ?_⟩) hHeld ?_
              rotate_left 1
              · intro wq hSw
                try dsimp only at hSw
                go_simp
                try (with_reducible rfl)
              try simp only [Act.put, List.setIfInBounds_toArray, List.set_cons_zero, List.set_cons_succ]
              refine wpAnyH_take (i := 4) (v := ?_) (by simp only [List.getElem?_toArray, List.getElem?_cons_succ, List.getElem?_cons_zero]; rfl) (by kernel_rfl) (by kernel_rfl) (by kernel_rfl) (by intro _ _ _ h; exact h) (Or.inl ⟨by rfl, ?_⟩) hHeld ?_
              rotate_left 1
              · intro wq hSw
                try dsimp only at hSw
                have q := qq wq hSw
                go_simp
                try (with_reducible rfl)
              try simp only [Act.put, List.setIfInBounds_toArray, List.set_cons_zero, List.set_cons_succ]
              refine wpAnyH_take (i := 5) (v := ?_) (by simp only [List.getElem?_toArray, List.getElem?_cons_succ, List.getElem?_cons_zero]; rfl) (by kernel_rfl) (by kernel_rfl) (by kernel_rfl) (by intro _ _ _ h; exact h) (Or.inl ⟨by rfl, ?_⟩) hHeld ?_
              rotate_left 1
              · intro wq hSw
                try dsimp only at hSw
                go_simp
                try (with_reducible rfl)
              try simp only [Act.put, List.setIfInBounds_toArray, List.set_cons_zero, List.set_cons_succ]
              refine wpAnyH_take (i := 6) (v := ?_) (by simp only [List.getElem?_toArray, List.getElem?_cons_succ, List.getElem?_cons_zero]; rfl) (by kernel_rfl) (by kernel_rfl) (by kernel_rfl) (by intro _ _ _ h; exact h) (Or.inl ⟨by rfl, ?_⟩) hHeld ?_
              rotate_left 1
              · intro wq hSw
                try dsimp only at hSw
                have q := qb wq hSw
                go_simp
                try (with_reducible rfl)
              try simp only [Act.put, List.setIfInBounds_toArray, List.set_cons_zero, List.set_cons_succ]
              refine wpAnyH_take (i := 7) (v := ?_) (by simp only [List.getElem?_toArray, List.getElem?_cons_succ, List.getElem?_cons_zero]; rfl) (by kernel_rfl) (by kernel_rfl) (by kernel_rfl) (by intro _ _ _ h; exact h) (Or.inl ⟨by rfl, ?_⟩) hHeld ?_
              rotate_left 1
              · intro wq hSw
                try dsimp only at hSw
                go_simp
                try (with_reducible rfl)
              try simp only [Act.put, List.setIfInBounds_toArray, List.set_cons_zero, List.set_cons_succ]
              refine wpAnyH_take (i := 8) (v := ?_) (by simp only [List.getElem?_toArray, List.getElem?_cons_succ, List.getElem?_cons_zero]; rfl) (by kernel_rfl) (by kernel_rfl) (by kernel_rfl) (by intro _ _ _ h; exact h) (Or.inl ⟨by rfl, ?_⟩) hHeld ?_
              rotate_left 1
              · intro wq hSw
                try dsimp only at hSw
                go_simp
                try (with_reducible rfl)
              try simp only [Act.put, List.setIfInBounds_toArray, List.set_cons_zero, List.set_cons_succ]
              refine wpAnyH_take (i := 9) (v := ?_) (by simp only [List.getElem?_toArray, List.getElem?_cons_succ, List.getElem?_cons_zero]; rfl) (by kernel_rfl) (by kernel_rfl) (by kernel_rfl) (by intro _ _ _ h; exact h) (Or.inl ⟨by rfl, ?_⟩) hHeld ?_
              rotate_left 1
              · intro wq hSw
                try dsimp only at hSw
                go_simp
                try (with_reducible rfl)
              try simp only [Act.put, List.setIfInBounds_toArray, List.set_cons_zero, List.set_cons_succ]
              refine wpAnyH_take (i := 10) (v := ?_) (by simp only [List.getElem?_toArray, List.getElem?_cons_succ, List.getElem?_cons_zero]; rfl) (by kernel_rfl) (by kernel_rfl) (by kernel_rfl) (by intro _ _ _ h; exact h) (Or.inl ⟨by rfl, ?_⟩) hHeld ?_
              rotate_left 1
              · intro wq hSw
                try dsimp only at hSw
                go_simp
                try (with_reducible rfl)
              try simp only [Act.put, List.setIfInBounds_toArray, List.set_cons_zero, List.set_cons_succ]
              refine wpAnyH_take (i := 11) (v := ?_) (by simp only [List.getElem?_toArray, List.getElem?_cons_succ, List.getElem?_cons_zero]; rfl) (by kernel_rfl) (by kernel_rfl) (by kernel_rfl) (by intro _ _ _ h; exact h) (Or.inl ⟨by rfl, ?_⟩) hHeld ?_
              rotate_left 1
              · intro wq hSw
                try dsimp only at hSw
                go_simp
                try (with_reducible rfl)
              try simp only [Act.put, List.setIfInBounds_toArray, List.set_cons_zero, List.set_cons_succ]
              refine wpAnyH_take (i := 12) (v := ?_) (by simp only [List.getElem?_toArray, List.getElem?_cons_succ, List.getElem?_cons_zero]; rfl) (by kernel_rfl) (by kernel_rfl) (by kernel_rfl) (by intro _ _ _ h; exact h) (Or.inl ⟨by rfl, ?_⟩) hHeld ?_
              rotate_left 1
              · intro wq hSw
                try dsimp only at hSw
                go_simp
                try (with_reducible rfl)
              try simp only [Act.put, List.setIfInBounds_toArray, List.set_cons_zero, List.set_cons_succ]
              refine wpAnyH_take (i := 13) (v := ?_) (by simp only [List.getElem?_toArray, List.getElem?_cons_succ, List.getElem?_cons_zero]; rfl) (by kernel_rfl) (by kernel_rfl) (by kernel_rfl) (by intro _ _ _ h; exact h) (Or.inl ⟨by rfl, ?_⟩) hHeld ?_
              rotate_left 1
              · intro wq hSw
                try dsimp only at hSw
                go_simp
                try (with_reducible rfl)
              try simp only [Act.put, List.setIfInBounds_toArray, List.set_cons_zero, List.set_cons_succ]
              refine wpAnyH_take (i := 14) (v := ?_) (by simp only [List.getElem?_toArray, List.getElem?_cons_succ, List.getElem?_cons_zero]; rfl) (by kernel_rfl) (by kernel_rfl) (by kernel_rfl) (by intro _ _ _ h; exact h) (Or.inl ⟨by rfl, ?_⟩) hHeld ?_
              rotate_left 1
              · intro wq hSw
                try dsimp only at hSw
                go_simp
                try (with_reducible rfl)
              try simp only [Act.put, List.setIfInBounds_toArray, List.set_cons_zero, List.set_cons_succ]
              refine wpAnyH_take (i := 15) (v := ?_) (by simp only [List.getElem?_toArray, List.getElem?_cons_succ, List.getElem?_cons_zero]; rfl) (by kernel_rfl) (by kernel_rfl) (by kernel_rfl) (by intro _ _ _ h; exact h) (Or.inl ⟨by rfl, ?_⟩) hHeld ?_
              rotate_left 1
              · intro wq hSw
                try dsimp only at hSw
                go_simp
                try (with_reducible rfl)
              try simp only [Act.put, List.setIfInBounds_toArray, List.set_cons_zero, List.set_cons_succ]
              refine wpAnyH_take (i := 16) (v := .pointer (some ⟨gp, op + j, none⟩)) (by simp only [List.getElem?_toArray, List.getElem?_cons_succ, List.getElem?_cons_zero]; rfl) (by kernel_rfl) (by kernel_rfl) (by kernel_rfl) (by intro _ _ _ h; exact h) (Or.inl ⟨by rfl, ?_⟩) hHeld ?_
              · intro wq hSw
                try dsimp only at hSw
                go_simp
                all_goals (first | (with_reducible rfl) | (intro hh; exfalso; omega))
              try simp only [Act.put, List.setIfInBounds_toArray, List.set_cons_zero, List.set_cons_succ]
              refine wpAnyH_take (i := 17) (v := ?_) (by simp only [List.getElem?_toArray, List.getElem?_cons_succ, List.getElem?_cons_zero]; rfl) (by kernel_rfl) (by kernel_rfl) (by kernel_rfl) (by intro _ _ _ h; exact h) (Or.inl ⟨by rfl, ?_⟩) hHeld ?_
              rotate_left 1
              · intro wq hSw
                try dsimp only at hSw
                have x0 := (hSw.cell hgp5).trans cp5
                go_simp
                try (with_reducible rfl)
              try simp only [Act.put, List.setIfInBounds_toArray, List.set_cons_zero, List.set_cons_succ]
              refine wpAnyH_take (i := 18) (v := ?_) (by simp only [List.getElem?_toArray, List.getElem?_cons_succ, List.getElem?_cons_zero]; rfl) (by kernel_rfl) (by kernel_rfl) (by kernel_rfl) (by intro _ _ _ h; exact h) (Or.inl ⟨by rfl, ?_⟩) hHeld ?_
              rotate_left 1
              · intro wq hSw
                try dsimp only at hSw
                go_simp
                try (with_reducible rfl)
              try simp only [Act.put, List.setIfInBounds_toArray, List.set_cons_zero, List.set_cons_succ]
              refine wpAnyH_take (i := 19) (v := ?_) (by simp only [List.getElem?_toArray, List.getElem?_cons_succ, List.getElem?_cons_zero]; rfl) (by kernel_rfl) (by kernel_rfl) (by kernel_rfl) (by intro _ _ _ h; exact h) (Or.inl ⟨by rfl, ?_⟩) hHeld ?_
              rotate_left 1
              · intro wq hSw
                try dsimp only at hSw
                go_simp
                try (with_reducible rfl)
              try simp only [Act.put, List.setIfInBounds_toArray, List.set_cons_zero, List.set_cons_succ]
              refine wpAnyH_take (i := 20) (v := .pointer (some ⟨gf, of_ + j * 5, none⟩)) (by simp only [List.getElem?_toArray, List.getElem?_cons_succ, List.getElem?_cons_zero]; rfl) (by kernel_rfl) (by kernel_rfl) (by kernel_rfl) (by intro _ _ _ h; exact h) (Or.inl ⟨by rfl, ?_⟩) hHeld ?_
              · intro wq hSw
                try dsimp only at hSw
                go_simp
                all_goals (first | (with_reducible rfl) | (intro hh; exfalso; omega))
              try simp only [Act.put, List.setIfInBounds_toArray, List.set_cons_zero, List.set_cons_succ]
              refine wpAnyH_take (i := 21) (v := ?_) (by simp only [List.getElem?_toArray, List.getElem?_cons_succ, List.getElem?_cons_zero]; rfl) (by kernel_rfl) (by kernel_rfl) (by kernel_rfl) (by intro _ _ _ h; exact h) (Or.inl ⟨by rfl, ?_⟩) hHeld ?_
              rotate_left 1
              · intro wq hSw
                try dsimp only at hSw
                go_simp
                try (with_reducible rfl)
              try simp only [Act.put, List.setIfInBounds_toArray, List.set_cons_zero, List.set_cons_succ]
              refine wpAnyH_take (i := 22) (v := ?_) (by simp only [List.getElem?_toArray, List.getElem?_cons_succ, List.getElem?_cons_zero]; rfl) (by kernel_rfl) (by kernel_rfl) (by kernel_rfl) (by intro _ _ _ h; exact h) (Or.inl ⟨by rfl, ?_⟩) hHeld ?_
              rotate_left 1
              · intro wq hSw
                try dsimp only at hSw
                have x0 := (hSw.cell hgf5).trans y3
                go_simp
                try (with_reducible rfl)
              try simp only [Act.put, List.setIfInBounds_toArray, List.set_cons_zero, List.set_cons_succ]
              refine wpAnyH_take (i := 23) (v := .float .f64 fa) (by simp only [List.getElem?_toArray, List.getElem?_cons_succ, List.getElem?_cons_zero]; rfl) (by kernel_rfl) (by kernel_rfl) (by kernel_rfl) (by intro _ _ _ h; exact h) (Or.inl ⟨by rfl, ?_⟩) hHeld ?_
              · intro wq hSw
                try dsimp only at hSw
                go_simp
                all_goals (first | (with_reducible rfl) | (simp [hfa0]; done))
              try simp only [Act.put, List.setIfInBounds_toArray, List.set_cons_zero, List.set_cons_succ]
              refine wpAnyH_take (i := 24) (v := ?_) (by simp only [List.getElem?_toArray, List.getElem?_cons_succ, List.getElem?_cons_zero]; rfl) (by kernel_rfl) (by kernel_rfl) (by kernel_rfl) (by intro _ _ _ h; exact h) (Or.inl ⟨by rfl, ?_⟩) hHeld ?_
              rotate_left 1
              · intro wq hSw
                try dsimp only at hSw
                go_simp
                try (with_reducible rfl)
              try simp only [Act.put, List.setIfInBounds_toArray, List.set_cons_zero, List.set_cons_succ]
              refine wpAnyH_take (i := 25) (v := ?_) (by simp only [List.getElem?_toArray, List.getElem?_cons_succ, List.getElem?_cons_zero]; rfl) (by kernel_rfl) (by kernel_rfl) (by kernel_rfl) (by intro _ _ _ h; exact h) (Or.inl ⟨by rfl, ?_⟩) hHeld ?_
              rotate_left 1
              · intro wq hSw
                try dsimp only at hSw
                go_simp
                try (with_reducible rfl)
              try simp only [Act.put, List.setIfInBounds_toArray, List.set_cons_zero, List.set_cons_succ]
              refine wpAnyH_take (i := 26) (v := .pointer (some ⟨gf, of_ + j * 5, none⟩)) (by simp only [List.getElem?_toArray, List.getElem?_cons_succ, List.getElem?_cons_zero]; rfl) (by kernel_rfl) (by kernel_rfl) (by kernel_rfl) (by intro _ _ _ h; exact h) (Or.inl ⟨by rfl, ?_⟩) hHeld ?_
              · intro wq hSw
                try dsimp only at hSw
                go_simp
                all_goals (first | (with_reducible rfl) | (intro hh; exfalso; omega))
              try simp only [Act.put, List.setIfInBounds_toArray, List.set_cons_zero, List.set_cons_succ]
              refine wpAnyH_take (i := 27) (v := ?_) (by simp only [List.getElem?_toArray, List.getElem?_cons_succ, List.getElem?_cons_zero]; rfl) (by kernel_rfl) (by kernel_rfl) (by kernel_rfl) (by intro _ _ _ h; exact h) (Or.inl ⟨by rfl, ?_⟩) hHeld ?_
              rotate_left 1
              · intro wq hSw
                try dsimp only at hSw
                go_simp
                try (with_reducible rfl)
              try simp only [Act.put, List.setIfInBounds_toArray, List.set_cons_zero, List.set_cons_succ]
              refine wpAnyH_take (i := 28) (v := ?_) (by simp only [List.getElem?_toArray, List.getElem?_cons_succ, List.getElem?_cons_zero]; rfl) (by kernel_rfl) (by kernel_rfl) (by kernel_rfl) (by intro _ _ _ h; exact h) (Or.inl ⟨by rfl, ?_⟩) hHeld ?_
              rotate_left 1
              · intro wq hSw
                try dsimp only at hSw
                have x0 := (hSw.cell hgf5).trans y4
                go_simp
                try (with_reducible rfl)
              try simp only [Act.put, List.setIfInBounds_toArray, List.set_cons_zero, List.set_cons_succ]
              refine wpAnyH_take (i := 29) (v := .float .f64 fb) (by simp only [List.getElem?_toArray, List.getElem?_cons_succ, List.getElem?_cons_zero]; rfl) (by kernel_rfl) (by kernel_rfl) (by kernel_rfl) (by intro _ _ _ h; exact h) (Or.inl ⟨by rfl, ?_⟩) hHeld ?_
              · intro wq hSw
                try dsimp only at hSw
                go_simp
                all_goals (first | (with_reducible rfl) | (simp [hfb0]; done))
              try simp only [Act.put, List.setIfInBounds_toArray, List.set_cons_zero, List.set_cons_succ]
              refine wpAnyH_take (i := 30) (v := ?_) (by simp only [List.getElem?_toArray, List.getElem?_cons_succ, List.getElem?_cons_zero]; rfl) (by kernel_rfl) (by kernel_rfl) (by kernel_rfl) (by intro _ _ _ h; exact h) (Or.inl ⟨by rfl, ?_⟩) hHeld ?_
              rotate_left 1
              · intro wq hSw
                try dsimp only at hSw
                go_simp
                try (with_reducible rfl)
              try simp only [Act.put, List.setIfInBounds_toArray, List.set_cons_zero, List.set_cons_succ]
              refine wpAnyH_take (i := 31) (v := .bool false) (by simp only [List.getElem?_toArray, List.getElem?_cons_succ, List.getElem?_cons_zero]; rfl) (by kernel_rfl) (by kernel_rfl) (by kernel_rfl) (by intro _ _ _ h; exact h) (Or.inl ⟨by rfl, ?_⟩) hHeld ?_
              · intro wq hSw
                try dsimp only at hSw
                go_simp
                all_goals (first | (with_reducible rfl) | (simp [hfe, hfg]; done))
              try simp only [Act.put, List.setIfInBounds_toArray, List.set_cons_zero, List.set_cons_succ]
              refine wpAnyH_take (i := 32) (v := ?_) (by simp only [List.getElem?_toArray, List.getElem?_cons_succ, List.getElem?_cons_zero]; rfl) (by kernel_rfl) (by kernel_rfl) (by kernel_rfl) (by intro _ _ _ h; exact h) (Or.inl ⟨by rfl, ?_⟩) hHeld ?_
              rotate_left 1
              · intro wq hSw
                try dsimp only at hSw
                go_simp
                try (with_reducible rfl)
              try simp only [Act.put, List.setIfInBounds_toArray, List.set_cons_zero, List.set_cons_succ]
              refine wpAnyH_done (by kernel_rfl) ?_ _
              go_wp2
              go_roundg g
              case measure => omega
              case rel => exact ⟨j + 1, by omega, by first | rfl | (simp; done) | (simp; exact wrap64_small (by omega) (by omega)), b5.trans (bd.mono b5.size)⟩
            · have hb : ∀ x ∈ xs, x.r.l.length ≤ 10000 := fun x hx => by
                obtain ⟨i, hi, rfl⟩ := List.mem_iff_getElem.1 hx
                have hi2 : i < ss.length := by rw [← hZA.out.len]; exact hi
                obtain ⟨zk, za, _, e2, _⟩ := hZA.out.at_ i _ (List.getElem?_eq_getElem hi2)
                rw [List.getElem?_eq_getElem hi] at e2
                rw [Option.some.inj e2]
                have := (hsA.out.2 i _ (List.getElem?_eq_getElem hi2)).2.1
                show (ss[i]).l.length ≤ 10000
                omega
              go_wp2_with fail
              refine (gRun_any Al kl cl xs 0 wr (Rl.below br) (by omega) (by omega) (by omega) hb ss hZA.out.run).mono ?_
              rintro e v1 ⟨A9, k9, c9, hk9, rfl, R9, b9⟩
              obtain rfl : k9 = kl := hk9.trans hka.out
              clear hk9
              go_wp2_with fail
              refine (allSame_any ss A9 k9 c9 Aa ca v1 R9 ((hRs.below br).below b9)).mono ?_
              rintro e v2 ⟨rfl, b10⟩
              go_wp2
              go_ret
              exact ⟨rfl, (bw7.trans (b9.mono bw7.size)).trans (b10.mono (Nat.le_trans bw7.size b9.size))⟩
        · obtain rfl : er = 60 := by
            rcases q4 with e | e
            · exact absurd e he
            · exact e
          clear q5 q4 he
          go_wp2
          go_ret
          exact ⟨rfl, bw4⟩

theorem LogFinds_walk (a0 : Option Addr) (len0 cap0 : Nat) (w : World) (hT : Tab w) (w0 : IsSts [.num .i64, .num .i64, .row .u8] w a0 len0 cap0) :
    Calls Tryd.prog 4 #[.slice a0 len0 cap0] w (AwakePost w) := by
  obtain ⟨ls, h⟩ := recs_of_sts w0
  exact LogFinds_core a0 len0 cap0 ls w hT h
end Go.Proofs.YtnejiclghnigiaaDoor
