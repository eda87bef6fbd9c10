/-
  LogKeeps: the walk (written by gen_logkeeps.py).
-/
import Derived.Test.YtnejiclghnigiaaDoorMergE
namespace Go.Proofs.YtnejiclghnigiaaDoor
open Go.RowKit Go.Wag
set_option linter.unusedVariables false
set_option maxRecDepth 20000

set_option maxHeartbeats 4000000 in
theorem LogKeeps_core {F F2 : Nat → Prop} (size lf dn : Int) (dw : Bool) (A : Option Addr) (n c : Nat) (zs : List Zp) (Al : Option Addr) (m cl : Nat) (rs : List Rp) (w : World) (hT : Tab w) (h : Zs F w A n c zs) (hr : Rs recE F2 w Al m cl rs) (hlf : lf < 9223372036854775808) :
    Calls Tryd.prog 5 #[.agg #[.int .i64 size, .slice A n c, .int .i64 lf, .bool dw, .int .i64 dn], .slice Al m cl] w (AwakePost w) := by
  have hlen := h.len
  have hlm := hr.len
  have bb := Below.refl w.heap.size w
  go_enter Tryd.func5, Tryd.ntmps5
  replace hT := hT.alloc (.cells #[.int .i64 size, .slice A n c, .int .i64 lf, .bool dw, .int .i64 dn] 36)
  replace h := h.alloc (.cells #[.int .i64 size, .slice A n c, .int .i64 lf, .bool dw, .int .i64 dn] 36)
  replace hr := hr.alloc (.cells #[.int .i64 size, .slice A n c, .int .i64 lf, .bool dw, .int .i64 dn] 36)
  replace bb := bb.alloc bb.size (.cells #[.int .i64 size, .slice A n c, .int .i64 lf, .bool dw, .int .i64 dn] 36)
  have Bd := Blk.new w #[.int .i64 size, .slice A n c, .int .i64 lf, .bool dw, .int .i64 dn] 36
  go_wp2_with fail
  generalize (w.alloc (.cells #[.int .i64 size, .slice A n c, .int .i64 lf, .bool dw, .int .i64 dn] 36)) = W1 at *
  have hC := awake6_any W1 hT
  refine hC.mono ?_
  clear hC
  rintro e w1 ⟨rfl, b1⟩
  replace hT := hT.below b1
  replace h := h.below b1
  replace hr := hr.below b1
  replace Bd := Bd.under b1
  replace bb := bb.trans (b1.mono bb.size)
  obtain ⟨Bdq0, Bdq1, Bdq2, Bdq3, Bdq4, Bdr0, Bdr1, Bdr2, Bdr3, Bdr4⟩ := Bd.five
  have Bdl := Bd.lt
  go_wp2_with fail
  clear Bdq0 Bdq1 Bdq2 Bdq3 Bdq4 Bdr0 Bdr1 Bdr2 Bdr3 Bdr4
  have hC := lSmall_any size lf dn dw A n c zs w1 h
  refine hC.mono ?_
  clear hC
  rintro e w2 ⟨rfl, b2⟩
  replace hT := hT.below b2
  replace h := h.below b2
  replace hr := hr.below b2
  replace Bd := Bd.under b2
  replace bb := bb.trans (b2.mono bb.size)
  cases hsm : smF zs with
  | false =>
    obtain ⟨Bdq0, Bdq1, Bdq2, Bdq3, Bdq4, Bdr0, Bdr1, Bdr2, Bdr3, Bdr4⟩ := Bd.five
    have Bdl := Bd.lt
    go_wp2
    go_ret
    exact ⟨rfl, bb⟩
  | true =>
    obtain ⟨h70, hSm⟩ := smF_sm hsm
    obtain ⟨Bdq0, Bdq1, Bdq2, Bdq3, Bdq4, Bdr0, Bdr1, Bdr2, Bdr3, Bdr4⟩ := Bd.five
    have Bdl := Bd.lt
    go_wp2_with fail
    clear Bdq0 Bdq1 Bdq2 Bdq3 Bdq4 Bdr0 Bdr1 Bdr2 Bdr3 Bdr4
    cases hdv : devF size zs with
    | false =>
      have hC := dCheck_at size lf dn dw A n c zs false w2 h hdv
      refine hC.mono ?_
      clear hC
      rintro e w3 ⟨rfl, b3⟩
      replace hT := hT.below b3
      replace h := h.below b3
      replace hr := hr.below b3
      replace Bd := Bd.under b3
      replace bb := bb.trans (b3.mono bb.size)
      obtain ⟨Bdq0, Bdq1, Bdq2, Bdq3, Bdq4, Bdr0, Bdr1, Bdr2, Bdr3, Bdr4⟩ := Bd.five
      have Bdl := Bd.lt
      go_wp2
      go_ret
      exact ⟨rfl, bb⟩
    | true =>
      have hC := dCheck_at size lf dn dw A n c zs true w2 h hdv
      refine hC.mono ?_
      clear hC
      rintro e w3 ⟨rfl, b3⟩
      replace hT := hT.below b3
      replace h := h.below b3
      replace hr := hr.below b3
      replace Bd := Bd.under b3
      replace bb := bb.trans (b3.mono bb.size)
      obtain ⟨Bdq0, Bdq1, Bdq2, Bdq3, Bdq4, Bdr0, Bdr1, Bdr2, Bdr3, Bdr4⟩ := Bd.five
      have Bdl := Bd.lt
      go_wp2_with fail
      clear Bdq0 Bdq1 Bdq2 Bdq3 Bdq4 Bdr0 Bdr1 Bdr2 Bdr3 Bdr4
      have hC := lbodies_any Al m cl rs w3 hr
      cases hbd : bodF rs with
      | false =>
        rw [hbd] at hC
        refine hC.mono ?_
        clear hC
        rintro e w4 ⟨rfl, rfl⟩
        obtain ⟨Bdq0, Bdq1, Bdq2, Bdq3, Bdq4, Bdr0, Bdr1, Bdr2, Bdr3, Bdr4⟩ := Bd.five
        have Bdl := Bd.lt
        go_wp2
        go_ret
        exact ⟨rfl, bb⟩
      | true =>
        rw [hbd] at hC
        refine hC.mono ?_
        clear hC
        rintro e w4 ⟨rfl, rfl⟩
        have h20 := (bodF_all hbd).1
        clear hbd hsm
        obtain ⟨Bdq0, Bdq1, Bdq2, Bdq3, Bdq4, Bdr0, Bdr1, Bdr2, Bdr3, Bdr4⟩ := Bd.five
        have Bdl := Bd.lt
        go_wp2_with fail
        clear Bdq0 Bdq1 Bdq2 Bdq3 Bdq4 Bdr0 Bdr1 Bdr2 Bdr3 Bdr4
        have hC := refCopy4_any size lf dn dw A n c zs w3 h hSm
        refine hC.mono ?_
        clear hC
        rintro e w5 ⟨Aw, cw, rfl, Zw, _, b5⟩
        replace hT := hT.below b5
        replace h := h.below b5
        replace hr := hr.below b5
        replace Bd := Bd.under b5
        replace bb := bb.trans (b5.mono bb.size)
        obtain ⟨Bdq0, Bdq1, Bdq2, Bdq3, Bdq4, Bdr0, Bdr1, Bdr2, Bdr3, Bdr4⟩ := Bd.five
        have Bdl := Bd.lt
        replace hT := hT.alloc (.cells #[.int .i64 size, .slice Aw n cw, .int .i64 lf, .bool dw, .int .i64 dn] 36)
        replace h := h.alloc (.cells #[.int .i64 size, .slice Aw n cw, .int .i64 lf, .bool dw, .int .i64 dn] 36)
        replace hr := hr.alloc (.cells #[.int .i64 size, .slice Aw n cw, .int .i64 lf, .bool dw, .int .i64 dn] 36)
        replace Bd := Bd.alloc (.cells #[.int .i64 size, .slice Aw n cw, .int .i64 lf, .bool dw, .int .i64 dn] 36)
        replace Zw := Zw.alloc (.cells #[.int .i64 size, .slice Aw n cw, .int .i64 lf, .bool dw, .int .i64 dn] 36)
        replace bb := bb.alloc bb.size (.cells #[.int .i64 size, .slice Aw n cw, .int .i64 lf, .bool dw, .int .i64 dn] 36)
        have Bw := Blk.new w5 #[.int .i64 size, .slice Aw n cw, .int .i64 lf, .bool dw, .int .i64 dn] 36
        go_wp2_with fail
        clear Bdq0 Bdq1 Bdq2 Bdq3 Bdq4 Bdr0 Bdr1 Bdr2 Bdr3 Bdr4
        generalize (w5.alloc (.cells #[.int .i64 size, .slice Aw n cw, .int .i64 lf, .bool dw, .int .i64 dn] 36)) = W2 at *
        obtain ⟨y, hy⟩ : ∃ y, Hid (y = apS size ⟨lf, dn, dw, zs⟩ rs) := ⟨_, rfl⟩
        obtain ⟨k1, k2, k3, k4, k5⟩ := apS_keep size rs ⟨lf, dn, dw, zs⟩ ⟨hdv, hlf⟩
        have hC := gAppend_any size ⟨lf, dn, dw, zs⟩ A n c Al m cl rs W2 hT h hr (by omega) ⟨hdv, hlf⟩
        rw [← hy.out] at hC k1 k2 k3 k4 k5
        refine hC.mono ?_
        clear hC hy
        obtain ⟨dx, pl, er⟩ := y
        obtain ⟨lf2, dn2, dw2, zx⟩ := dx
        dsimp only at k1 k2 k3 k4 k5
        rintro e w6 ⟨Ax, Ap, kp, cp, hkp, rfl, Zx, Rp2, b6⟩
        dsimp only at hkp Zx Rp2 ⊢
        have hpc := Rp2.cap
        have hpb := Rp2.big
        replace hT := hT.below b6
        replace h := h.below b6
        replace hr := hr.below b6
        replace Bd := Bd.under b6
        replace Zw := Zw.below b6
        replace Bw := Bw.under b6
        replace bb := bb.trans (b6.mono bb.size)
        have k6 : kp ≤ m := by omega
        have k7 : er = 0 → kp = m := fun e => by have := k5 e; omega
        clear Rp2 k4 k5 hkp
        obtain ⟨Bdq0, Bdq1, Bdq2, Bdq3, Bdq4, Bdr0, Bdr1, Bdr2, Bdr3, Bdr4⟩ := Bd.five
        have Bdl := Bd.lt
        obtain ⟨Bwq0, Bwq1, Bwq2, Bwq3, Bwq4, Bwr0, Bwr1, Bwr2, Bwr3, Bwr4⟩ := Bw.five
        have Bwl := Bw.lt
        replace hT := hT.alloc (.cells #[.int .i64 size, .slice Ax n n, .int .i64 lf2, .bool dw2, .int .i64 dn2] 36)
        replace h := h.alloc (.cells #[.int .i64 size, .slice Ax n n, .int .i64 lf2, .bool dw2, .int .i64 dn2] 36)
        replace hr := hr.alloc (.cells #[.int .i64 size, .slice Ax n n, .int .i64 lf2, .bool dw2, .int .i64 dn2] 36)
        replace Bd := Bd.alloc (.cells #[.int .i64 size, .slice Ax n n, .int .i64 lf2, .bool dw2, .int .i64 dn2] 36)
        replace Zw := Zw.alloc (.cells #[.int .i64 size, .slice Ax n n, .int .i64 lf2, .bool dw2, .int .i64 dn2] 36)
        replace Bw := Bw.alloc (.cells #[.int .i64 size, .slice Ax n n, .int .i64 lf2, .bool dw2, .int .i64 dn2] 36)
        replace Zx := Zx.alloc (.cells #[.int .i64 size, .slice Ax n n, .int .i64 lf2, .bool dw2, .int .i64 dn2] 36)
        replace bb := bb.alloc bb.size (.cells #[.int .i64 size, .slice Ax n n, .int .i64 lf2, .bool dw2, .int .i64 dn2] 36)
        have Bx := Blk.new w6 #[.int .i64 size, .slice Ax n n, .int .i64 lf2, .bool dw2, .int .i64 dn2] 36
        go_wp2_with fail
        clear Bdq0 Bdq1 Bdq2 Bdq3 Bdq4 Bdr0 Bdr1 Bdr2 Bdr3 Bdr4
        clear Bwq0 Bwq1 Bwq2 Bwq3 Bwq4 Bwr0 Bwr1 Bwr2 Bwr3 Bwr4
        generalize (w6.alloc (.cells #[.int .i64 size, .slice Ax n n, .int .i64 lf2, .bool dw2, .int .i64 dn2] 36)) = W3 at *
        have hC := refSame4_eq size lf dn dw Aw n cw A c zs W3 Zw h (by omega)
        refine hC.mono ?_
        clear hC
        rintro e w7 ⟨rfl, b7⟩
        replace hT := hT.below b7
        replace h := h.below b7
        replace hr := hr.below b7
        replace Bd := Bd.under b7
        replace Zw := Zw.below b7
        replace Bw := Bw.under b7
        replace Zx := Zx.below b7
        replace Bx := Bx.under b7
        replace bb := bb.trans (b7.mono bb.size)
        clear Zw Bw
        obtain ⟨Bxq0, Bxq1, Bxq2, Bxq3, Bxq4, Bxr0, Bxr1, Bxr2, Bxr3, Bxr4⟩ := Bx.five
        have Bxl := Bx.lt
        go_wp2_with fail
        clear Bxq0 Bxq1 Bxq2 Bxq3 Bxq4 Bxr0 Bxr1 Bxr2 Bxr3 Bxr4
        have hC := dCheck_at size lf2 dn2 dw2 Ax n n zx true w7 Zx k2
        refine hC.mono ?_
        clear hC
        rintro e w8 ⟨rfl, b8⟩
        replace hT := hT.below b8
        replace h := h.below b8
        replace hr := hr.below b8
        replace Bd := Bd.under b8
        replace Zx := Zx.below b8
        replace Bx := Bx.under b8
        replace bb := bb.trans (b8.mono bb.size)
        have k1' : Aside (PreZ zs zx) := k1
        have k6' : ¬ (m : Int) < (kp : Int) := by omega
        have k6'' : ¬ m < kp := by omega
        have k6d : decide (m < kp) = false := by simpa using k6
        have hmc := hr.cap
        have hmb := hr.big
        have hnc := h.cap
        have hnb := h.big
        clear k1 k2 hdv hSm hr hT
        by_cases her : er = 0
        · obtain rfl : kp = m := k7 her
          subst her
          obtain ⟨Bxq0, Bxq1, Bxq2, Bxq3, Bxq4, Bxr0, Bxr1, Bxr2, Bxr3, Bxr4⟩ := Bx.five
          have Bxl := Bx.lt
          obtain ⟨Bdq0, Bdq1, Bdq2, Bdq3, Bdq4, Bdr0, Bdr1, Bdr2, Bdr3, Bdr4⟩ := Bd.five
          have Bdl := Bd.lt
          go_wp2_with fail
          clear Bxq0 Bxq1 Bxq2 Bxq3 Bxq4 Bxr0 Bxr1 Bxr2 Bxr3 Bxr4
          clear Bdq0 Bdq1 Bdq2 Bdq3 Bdq4 Bdr0 Bdr1 Bdr2 Bdr3 Bdr4
          go_loopg [11] n (fun g i wr => ∃ j : Nat, j + g = n ∧ i = .int .i64 (j : Int) ∧ Below w8.heap.size w8 wr)
          case atStart => exact ⟨0, by omega, rfl, Below.refl _ _⟩
          case round =>
            obtain ⟨j, hj, rfl, br⟩ := hrel
            replace h := h.below br
            replace Bd := Bd.under br
            replace Zx := Zx.below br
            replace Bx := Bx.under br
            replace bb := bb.trans (br.mono bb.size)
            obtain ⟨Bdq0, Bdq1, Bdq2, Bdq3, Bdq4, Bdr0, Bdr1, Bdr2, Bdr3, Bdr4⟩ := Bd.five
            have Bdl := Bd.lt
            by_cases hltj : (j : Int) < (n : Int)
            · skip
              obtain ⟨g', rfl⟩ : ∃ g', gk = g' + 1 := ⟨gk - 1, by omega⟩
              obtain ⟨gb, o, z, Ai, ci, rfl, _, hg, hz, e0, e1, e2, e3, hSz, _⟩ := h.at_ (show j < n by omega)
              obtain ⟨gx, ox, zy, Ay, cy, rfl, _, hgx, hzy, f0, f1, f2, f3, hSy, _⟩ := Zx.at_ (show j < n by omega)
              replace hj : Hid _ := hj
              obtain ⟨mm, hmm⟩ : ∃ x, z.l.length = x := ⟨_, rfl⟩
              have hkq : mm ≤ zy.l.length ∧ zy.l.take mm = z.l := by
                obtain ⟨z', t, h1, h2⟩ := k1'.out j z hz
                rw [hzy] at h1
                cases h1
                rw [h2, ← hmm]
                exact ⟨by simp, by simp⟩
              obtain ⟨hmy, htk⟩ := hkq
              have hmy2 : ¬ (zy.l.length : Int) < (mm : Int) := by omega
              rw [hmm] at e2 hSz
              have hmc1 : mm ≤ ci := hSz.cap
              have hmc2 : mm ≤ cy := by have := hSy.cap; omega
              have hcb2 := hSy.big
              have HY := hSy.upto hmy
              rw [← List.map_take, htk] at HY
              have qy := fun W (h : Below wr.heap.size wr W) => str_of (HY.below h)
              have qz := fun W (h : Below wr.heap.size wr W) => str_of (hSz.below h)
              have hmm2 : Hid (z.l.length = mm) := hmm
              clear htk hz hzy hmm
              go_wp2_with fail
              clear Bdq0 Bdq1 Bdq2 Bdq3 Bdq4 Bdr0 Bdr1 Bdr2 Bdr3 Bdr4
              refine wp_region_held_drew (S := fun w' => Below wr.heap.size wr w') (by kernel_rfl) (Below.refl _ _).drew (fun hHeld => ?_)
              try dsimp only at hHeld
              have bd : Below wr.heap.size wr wr.drew := (Below.refl wr.heap.size wr).drew
              generalize wr.drew = wd at *
              try simp only [Act.put, List.setIfInBounds_toArray, List.set_cons_zero, List.set_cons_succ]
              refine wpAnyH_take (i := 0) (v := ?_) (by simp only [List.getElem?_toArray, List.getElem?_cons_zero]; rfl) (by kernel_rfl) (by kernel_rfl) (by kernel_rfl) (by intro _ _ _ h; exact h) (Or.inl ⟨by rfl, ?_⟩) hHeld ?_
              rotate_left 1
              · intro wq hSw
                try dsimp only at hSw
                go_simp
                try (with_reducible rfl)
              try simp only [Act.put, List.setIfInBounds_toArray, List.set_cons_zero, List.set_cons_succ]
              refine wpAnyH_take (i := 1) (v := ?_) (by simp only [List.getElem?_toArray, List.getElem?_cons_succ, List.getElem?_cons_zero]; rfl) (by kernel_rfl) (by kernel_rfl) (by kernel_rfl) (by intro _ _ _ h; exact h) (Or.inl ⟨by rfl, ?_⟩) hHeld ?_
              rotate_left 1
              · intro wq hSw
                try dsimp only at hSw
                obtain ⟨x0, x1, x2, x3, x4, _⟩ := (Bx.under hSw).five
                go_simp
                try (with_reducible rfl)
              try simp only [Act.put, List.setIfInBounds_toArray, List.set_cons_zero, List.set_cons_succ]
              refine wpAnyH_take (i := 2) (v := ?_) (by simp only [List.getElem?_toArray, List.getElem?_cons_succ, List.getElem?_cons_zero]; rfl) (by kernel_rfl) (by kernel_rfl) (by kernel_rfl) (by intro _ _ _ h; exact h) (Or.inl ⟨by rfl, ?_⟩) hHeld ?_
              rotate_left 1
              · intro wq hSw
                try dsimp only at hSw
                go_simp
                try (with_reducible rfl)
              try simp only [Act.put, List.setIfInBounds_toArray, List.set_cons_zero, List.set_cons_succ]
              refine wpAnyH_take (i := 3) (v := ?_) (by simp only [List.getElem?_toArray, List.getElem?_cons_succ, List.getElem?_cons_zero]; rfl) (by kernel_rfl) (by kernel_rfl) (by kernel_rfl) (by intro _ _ _ h; exact h) (Or.inl ⟨by rfl, ?_⟩) hHeld ?_
              rotate_left 1
              · intro wq hSw
                try dsimp only at hSw
                go_simp
                try (with_reducible rfl)
              try simp only [Act.put, List.setIfInBounds_toArray, List.set_cons_zero, List.set_cons_succ]
              refine wpAnyH_take (i := 4) (v := ?_) (by simp only [List.getElem?_toArray, List.getElem?_cons_succ, List.getElem?_cons_zero]; rfl) (by kernel_rfl) (by kernel_rfl) (by kernel_rfl) (by intro _ _ _ h; exact h) (Or.inl ⟨by rfl, ?_⟩) hHeld ?_
              rotate_left 1
              · intro wq hSw
                try dsimp only at hSw
                go_simp
                try (with_reducible rfl)
              try simp only [Act.put, List.setIfInBounds_toArray, List.set_cons_zero, List.set_cons_succ]
              refine wpAnyH_take (i := 5) (v := ?_) (by simp only [List.getElem?_toArray, List.getElem?_cons_succ, List.getElem?_cons_zero]; rfl) (by kernel_rfl) (by kernel_rfl) (by kernel_rfl) (by intro _ _ _ h; exact h) (Or.inl ⟨by rfl, ?_⟩) hHeld ?_
              rotate_left 1
              · intro wq hSw
                try dsimp only at hSw
                have x0 := (hSw.cell hgx).trans f2
                go_simp
                try (with_reducible rfl)
              try simp only [Act.put, List.setIfInBounds_toArray, List.set_cons_zero, List.set_cons_succ]
              refine wpAnyH_take (i := 6) (v := ?_) (by simp only [List.getElem?_toArray, List.getElem?_cons_succ, List.getElem?_cons_zero]; rfl) (by kernel_rfl) (by kernel_rfl) (by kernel_rfl) (by intro _ _ _ h; exact h) (Or.inl ⟨by rfl, ?_⟩) hHeld ?_
              rotate_left 1
              · intro wq hSw
                try dsimp only at hSw
                go_simp
                try (with_reducible rfl)
              try simp only [Act.put, List.setIfInBounds_toArray, List.set_cons_zero, List.set_cons_succ]
              refine wpAnyH_take (i := 7) (v := ?_) (by simp only [List.getElem?_toArray, List.getElem?_cons_succ, List.getElem?_cons_zero]; rfl) (by kernel_rfl) (by kernel_rfl) (by kernel_rfl) (by intro _ _ _ h; exact h) (Or.inl ⟨by rfl, ?_⟩) hHeld ?_
              rotate_left 1
              · intro wq hSw
                try dsimp only at hSw
                go_simp
                try (with_reducible rfl)
              try simp only [Act.put, List.setIfInBounds_toArray, List.set_cons_zero, List.set_cons_succ]
              refine wpAnyH_take (i := 8) (v := .bool false) (by simp only [List.getElem?_toArray, List.getElem?_cons_succ, List.getElem?_cons_zero]; rfl) (by kernel_rfl) (by kernel_rfl) (by kernel_rfl) (by intro _ _ _ h; exact h) (Or.inl ⟨by rfl, ?_⟩) hHeld ?_
              · intro wq hSw
                try dsimp only at hSw
                go_simp
                all_goals first
                  | (with_reducible rfl)
                  | (simp; done)
                  | (simp; omega)
              try simp only [Act.put, List.setIfInBounds_toArray, List.set_cons_zero, List.set_cons_succ]
              refine wpAnyH_take (i := 9) (v := ?_) (by simp only [List.getElem?_toArray, List.getElem?_cons_succ, List.getElem?_cons_zero]; rfl) (by kernel_rfl) (by kernel_rfl) (by kernel_rfl) (by intro _ _ _ h; exact h) (Or.inl ⟨by rfl, ?_⟩) hHeld ?_
              rotate_left 1
              · intro wq hSw
                try dsimp only at hSw
                go_simp
                try (with_reducible rfl)
              try simp only [Act.put, List.setIfInBounds_toArray, List.set_cons_zero, List.set_cons_succ]
              refine wpAnyH_take (i := 10) (v := ?_) (by simp only [List.getElem?_toArray, List.getElem?_cons_succ, List.getElem?_cons_zero]; rfl) (by kernel_rfl) (by kernel_rfl) (by kernel_rfl) (by intro _ _ _ h; exact h) (Or.inl ⟨by rfl, ?_⟩) hHeld ?_
              rotate_left 1
              · intro wq hSw
                try dsimp only at hSw
                go_simp
                try (with_reducible rfl)
              try simp only [Act.put, List.setIfInBounds_toArray, List.set_cons_zero, List.set_cons_succ]
              refine wpAnyH_take (i := 11) (v := ?_) (by simp only [List.getElem?_toArray, List.getElem?_cons_succ, List.getElem?_cons_zero]; rfl) (by kernel_rfl) (by kernel_rfl) (by kernel_rfl) (by intro _ _ _ h; exact h) (Or.inl ⟨by rfl, ?_⟩) hHeld ?_
              rotate_left 1
              · intro wq hSw
                try dsimp only at hSw
                obtain ⟨x0, x1, x2, x3, x4, _⟩ := (Bx.under hSw).five
                go_simp
                try (with_reducible rfl)
              try simp only [Act.put, List.setIfInBounds_toArray, List.set_cons_zero, List.set_cons_succ]
              refine wpAnyH_take (i := 12) (v := ?_) (by simp only [List.getElem?_toArray, List.getElem?_cons_succ, List.getElem?_cons_zero]; rfl) (by kernel_rfl) (by kernel_rfl) (by kernel_rfl) (by intro _ _ _ h; exact h) (Or.inl ⟨by rfl, ?_⟩) hHeld ?_
              rotate_left 1
              · intro wq hSw
                try dsimp only at hSw
                go_simp
                try (with_reducible rfl)
              try simp only [Act.put, List.setIfInBounds_toArray, List.set_cons_zero, List.set_cons_succ]
              refine wpAnyH_take (i := 13) (v := ?_) (by simp only [List.getElem?_toArray, List.getElem?_cons_succ, List.getElem?_cons_zero]; rfl) (by kernel_rfl) (by kernel_rfl) (by kernel_rfl) (by intro _ _ _ h; exact h) (Or.inl ⟨by rfl, ?_⟩) hHeld ?_
              rotate_left 1
              · intro wq hSw
                try dsimp only at hSw
                go_simp
                try (with_reducible rfl)
              try simp only [Act.put, List.setIfInBounds_toArray, List.set_cons_zero, List.set_cons_succ]
              refine wpAnyH_take (i := 14) (v := ?_) (by simp only [List.getElem?_toArray, List.getElem?_cons_succ, List.getElem?_cons_zero]; rfl) (by kernel_rfl) (by kernel_rfl) (by kernel_rfl) (by intro _ _ _ h; exact h) (Or.inl ⟨by rfl, ?_⟩) hHeld ?_
              rotate_left 1
              · intro wq hSw
                try dsimp only at hSw
                go_simp
                try (with_reducible rfl)
              try simp only [Act.put, List.setIfInBounds_toArray, List.set_cons_zero, List.set_cons_succ]
              refine wpAnyH_take (i := 15) (v := ?_) (by simp only [List.getElem?_toArray, List.getElem?_cons_succ, List.getElem?_cons_zero]; rfl) (by kernel_rfl) (by kernel_rfl) (by kernel_rfl) (by intro _ _ _ h; exact h) (Or.inl ⟨by rfl, ?_⟩) hHeld ?_
              rotate_left 1
              · intro wq hSw
                try dsimp only at hSw
                have x0 := (hSw.cell hgx).trans f2
                go_simp
                try (with_reducible rfl)
              try simp only [Act.put, List.setIfInBounds_toArray, List.set_cons_zero, List.set_cons_succ]
              refine wpAnyH_take (i := 16) (v := ?_) (by simp only [List.getElem?_toArray, List.getElem?_cons_succ, List.getElem?_cons_zero]; rfl) (by kernel_rfl) (by kernel_rfl) (by kernel_rfl) (by intro _ _ _ h; exact h) (Or.inl ⟨by rfl, ?_⟩) hHeld ?_
              rotate_left 1
              · intro wq hSw
                try dsimp only at hSw
                go_simp
                try (with_reducible rfl)
              try simp only [Act.put, List.setIfInBounds_toArray, List.set_cons_zero, List.set_cons_succ]
              refine wpAnyH_take (i := 17) (v := ?_) (by simp only [List.getElem?_toArray, List.getElem?_cons_succ, List.getElem?_cons_zero]; rfl) (by kernel_rfl) (by kernel_rfl) (by kernel_rfl) (by intro _ _ _ h; exact h) (Or.inl ⟨by rfl, ?_⟩) hHeld ?_
              rotate_left 1
              · intro wq hSw
                try dsimp only at hSw
                go_simp
                try (with_reducible rfl)
              try simp only [Act.put, List.setIfInBounds_toArray, List.set_cons_zero, List.set_cons_succ]
              refine wpAnyH_take (i := 18) (v := ?_) (by simp only [List.getElem?_toArray, List.getElem?_cons_succ, List.getElem?_cons_zero]; rfl) (by kernel_rfl) (by kernel_rfl) (by kernel_rfl) (by intro _ _ _ h; exact h) (Or.inl ⟨by rfl, ?_⟩) hHeld ?_
              rotate_left 1
              · intro wq hSw
                try dsimp only at hSw
                have q := qy wq hSw
                go_simp
                try (with_reducible rfl)
              try simp only [Act.put, List.setIfInBounds_toArray, List.set_cons_zero, List.set_cons_succ]
              refine wpAnyH_take (i := 19) (v := ?_) (by simp only [List.getElem?_toArray, List.getElem?_cons_succ, List.getElem?_cons_zero]; rfl) (by kernel_rfl) (by kernel_rfl) (by kernel_rfl) (by intro _ _ _ h; exact h) (Or.inl ⟨by rfl, ?_⟩) hHeld ?_
              rotate_left 1
              · intro wq hSw
                try dsimp only at hSw
                go_simp
                try (with_reducible rfl)
              try simp only [Act.put, List.setIfInBounds_toArray, List.set_cons_zero, List.set_cons_succ]
              refine wpAnyH_take (i := 20) (v := ?_) (by simp only [List.getElem?_toArray, List.getElem?_cons_succ, List.getElem?_cons_zero]; rfl) (by kernel_rfl) (by kernel_rfl) (by kernel_rfl) (by intro _ _ _ h; exact h) (Or.inl ⟨by rfl, ?_⟩) hHeld ?_
              rotate_left 1
              · intro wq hSw
                try dsimp only at hSw
                obtain ⟨x0, x1, x2, x3, x4, _⟩ := (Bd.under hSw).five
                go_simp
                try (with_reducible rfl)
              try simp only [Act.put, List.setIfInBounds_toArray, List.set_cons_zero, List.set_cons_succ]
              refine wpAnyH_take (i := 21) (v := ?_) (by simp only [List.getElem?_toArray, List.getElem?_cons_succ, List.getElem?_cons_zero]; rfl) (by kernel_rfl) (by kernel_rfl) (by kernel_rfl) (by intro _ _ _ h; exact h) (Or.inl ⟨by rfl, ?_⟩) hHeld ?_
              rotate_left 1
              · intro wq hSw
                try dsimp only at hSw
                go_simp
                try (with_reducible rfl)
              try simp only [Act.put, List.setIfInBounds_toArray, List.set_cons_zero, List.set_cons_succ]
              refine wpAnyH_take (i := 22) (v := ?_) (by simp only [List.getElem?_toArray, List.getElem?_cons_succ, List.getElem?_cons_zero]; rfl) (by kernel_rfl) (by kernel_rfl) (by kernel_rfl) (by intro _ _ _ h; exact h) (Or.inl ⟨by rfl, ?_⟩) hHeld ?_
              rotate_left 1
              · intro wq hSw
                try dsimp only at hSw
                go_simp
                try (with_reducible rfl)
              try simp only [Act.put, List.setIfInBounds_toArray, List.set_cons_zero, List.set_cons_succ]
              refine wpAnyH_take (i := 23) (v := ?_) (by simp only [List.getElem?_toArray, List.getElem?_cons_succ, List.getElem?_cons_zero]; rfl) (by kernel_rfl) (by kernel_rfl) (by kernel_rfl) (by intro _ _ _ h; exact h) (Or.inl ⟨by rfl, ?_⟩) hHeld ?_
              rotate_left 1
              · intro wq hSw
                try dsimp only at hSw
                go_simp
                try (with_reducible rfl)
              try simp only [Act.put, List.setIfInBounds_toArray, List.set_cons_zero, List.set_cons_succ]
              refine wpAnyH_take (i := 24) (v := ?_) (by simp only [List.getElem?_toArray, List.getElem?_cons_succ, List.getElem?_cons_zero]; rfl) (by kernel_rfl) (by kernel_rfl) (by kernel_rfl) (by intro _ _ _ h; exact h) (Or.inl ⟨by rfl, ?_⟩) hHeld ?_
              rotate_left 1
              · intro wq hSw
                try dsimp only at hSw
                have x0 := (hSw.cell hg).trans e2
                go_simp
                try (with_reducible rfl)
              try simp only [Act.put, List.setIfInBounds_toArray, List.set_cons_zero, List.set_cons_succ]
              refine wpAnyH_take (i := 25) (v := ?_) (by simp only [List.getElem?_toArray, List.getElem?_cons_succ, List.getElem?_cons_zero]; rfl) (by kernel_rfl) (by kernel_rfl) (by kernel_rfl) (by intro _ _ _ h; exact h) (Or.inl ⟨by rfl, ?_⟩) hHeld ?_
              rotate_left 1
              · intro wq hSw
                try dsimp only at hSw
                have q := qz wq hSw
                go_simp
                try (with_reducible rfl)
              try simp only [Act.put, List.setIfInBounds_toArray, List.set_cons_zero, List.set_cons_succ]
              refine wpAnyH_take (i := 26) (v := ?_) (by simp only [List.getElem?_toArray, List.getElem?_cons_succ, List.getElem?_cons_zero]; rfl) (by kernel_rfl) (by kernel_rfl) (by kernel_rfl) (by intro _ _ _ h; exact h) (Or.inl ⟨by rfl, ?_⟩) hHeld ?_
              rotate_left 1
              · intro wq hSw
                try dsimp only at hSw
                go_simp
                try (with_reducible rfl)
              try simp only [Act.put, List.setIfInBounds_toArray, List.set_cons_zero, List.set_cons_succ]
              refine wpAnyH_take (i := 27) (v := ?_) (by simp only [List.getElem?_toArray, List.getElem?_cons_succ, List.getElem?_cons_zero]; rfl) (by kernel_rfl) (by kernel_rfl) (by kernel_rfl) (by intro _ _ _ h; exact h) (Or.inl ⟨by rfl, ?_⟩) hHeld ?_
              rotate_left 1
              · intro wq hSw
                try dsimp only at hSw
                go_simp
                try (with_reducible rfl)
              try simp only [Act.put, List.setIfInBounds_toArray, List.set_cons_zero, List.set_cons_succ]
              refine wpAnyH_done (by kernel_rfl) ?_ _
              go_wp2
              go_roundg g'
              case measure => omega
              case rel => exact ⟨j + 1, by have := hj.out; omega, by first | rfl | (simp; done) | (simp; exact wrap64_small (by omega) (by omega)), br.trans (bd.mono br.size)⟩
            · go_wp2
              go_ret
              exact ⟨rfl, bb⟩
        · have hb0 : (er == 0) = false := by simpa using her
          clear k7
          obtain ⟨Bxq0, Bxq1, Bxq2, Bxq3, Bxq4, Bxr0, Bxr1, Bxr2, Bxr3, Bxr4⟩ := Bx.five
          have Bxl := Bx.lt
          obtain ⟨Bdq0, Bdq1, Bdq2, Bdq3, Bdq4, Bdr0, Bdr1, Bdr2, Bdr3, Bdr4⟩ := Bd.five
          have Bdl := Bd.lt
          go_wp2_with fail
          clear Bxq0 Bxq1 Bxq2 Bxq3 Bxq4 Bxr0 Bxr1 Bxr2 Bxr3 Bxr4
          clear Bdq0 Bdq1 Bdq2 Bdq3 Bdq4 Bdr0 Bdr1 Bdr2 Bdr3 Bdr4
          try simp only [hb0, k6d]
          clear her hb0
          go_loopg [11] n (fun g i wr => ∃ j : Nat, j + g = n ∧ i = .int .i64 (j : Int) ∧ Below w8.heap.size w8 wr)
          case atStart => exact ⟨0, by omega, rfl, Below.refl _ _⟩
          case round =>
            obtain ⟨j, hj, rfl, br⟩ := hrel
            replace h := h.below br
            replace Bd := Bd.under br
            replace Zx := Zx.below br
            replace Bx := Bx.under br
            replace bb := bb.trans (br.mono bb.size)
            obtain ⟨Bdq0, Bdq1, Bdq2, Bdq3, Bdq4, Bdr0, Bdr1, Bdr2, Bdr3, Bdr4⟩ := Bd.five
            have Bdl := Bd.lt
            by_cases hltj : (j : Int) < (n : Int)
            · skip
              obtain ⟨g', rfl⟩ : ∃ g', gk = g' + 1 := ⟨gk - 1, by omega⟩
              obtain ⟨gb, o, z, Ai, ci, rfl, _, hg, hz, e0, e1, e2, e3, hSz, _⟩ := h.at_ (show j < n by omega)
              obtain ⟨gx, ox, zy, Ay, cy, rfl, _, hgx, hzy, f0, f1, f2, f3, hSy, _⟩ := Zx.at_ (show j < n by omega)
              replace hj : Hid _ := hj
              obtain ⟨mm, hmm⟩ : ∃ x, z.l.length = x := ⟨_, rfl⟩
              have hkq : mm ≤ zy.l.length ∧ zy.l.take mm = z.l := by
                obtain ⟨z', t, h1, h2⟩ := k1'.out j z hz
                rw [hzy] at h1
                cases h1
                rw [h2, ← hmm]
                exact ⟨by simp, by simp⟩
              obtain ⟨hmy, htk⟩ := hkq
              have hmy2 : ¬ (zy.l.length : Int) < (mm : Int) := by omega
              rw [hmm] at e2 hSz
              have hmc1 : mm ≤ ci := hSz.cap
              have hmc2 : mm ≤ cy := by have := hSy.cap; omega
              have hcb2 := hSy.big
              have HY := hSy.upto hmy
              rw [← List.map_take, htk] at HY
              have qy := fun W (h : Below wr.heap.size wr W) => str_of (HY.below h)
              have qz := fun W (h : Below wr.heap.size wr W) => str_of (hSz.below h)
              have hmm2 : Hid (z.l.length = mm) := hmm
              clear htk hz hzy hmm
              go_wp2_with fail
              clear Bdq0 Bdq1 Bdq2 Bdq3 Bdq4 Bdr0 Bdr1 Bdr2 Bdr3 Bdr4
              refine wp_region_held_drew (S := fun w' => Below wr.heap.size wr w') (by kernel_rfl) (Below.refl _ _).drew (fun hHeld => ?_)
              try dsimp only at hHeld
              have bd : Below wr.heap.size wr wr.drew := (Below.refl wr.heap.size wr).drew
              generalize wr.drew = wd at *
              try simp only [Act.put, List.setIfInBounds_toArray, List.set_cons_zero, List.set_cons_succ]
              refine wpAnyH_take (i := 0) (v := ?_) (by simp only [List.getElem?_toArray, List.getElem?_cons_zero]; rfl) (by kernel_rfl) (by kernel_rfl) (by kernel_rfl) (by intro _ _ _ h; exact h) (Or.inl ⟨by rfl, ?_⟩) hHeld ?_
              rotate_left 1
              · intro wq hSw
                try dsimp only at hSw
                go_simp
                try (with_reducible rfl)
              try simp only [Act.put, List.setIfInBounds_toArray, List.set_cons_zero, List.set_cons_succ]
              refine wpAnyH_take (i := 1) (v := ?_) (by simp only [List.getElem?_toArray, List.getElem?_cons_succ, List.getElem?_cons_zero]; rfl) (by kernel_rfl) (by kernel_rfl) (by kernel_rfl) (by intro _ _ _ h; exact h) (Or.inl ⟨by rfl, ?_⟩) hHeld ?_
              rotate_left 1
              · intro wq hSw
                try dsimp only at hSw
                obtain ⟨x0, x1, x2, x3, x4, _⟩ := (Bx.under hSw).five
                go_simp
                try (with_reducible rfl)
              try simp only [Act.put, List.setIfInBounds_toArray, List.set_cons_zero, List.set_cons_succ]
              refine wpAnyH_take (i := 2) (v := ?_) (by simp only [List.getElem?_toArray, List.getElem?_cons_succ, List.getElem?_cons_zero]; rfl) (by kernel_rfl) (by kernel_rfl) (by kernel_rfl) (by intro _ _ _ h; exact h) (Or.inl ⟨by rfl, ?_⟩) hHeld ?_
              rotate_left 1
              · intro wq hSw
                try dsimp only at hSw
                go_simp
                try (with_reducible rfl)
              try simp only [Act.put, List.setIfInBounds_toArray, List.set_cons_zero, List.set_cons_succ]
              refine wpAnyH_take (i := 3) (v := ?_) (by simp only [List.getElem?_toArray, List.getElem?_cons_succ, List.getElem?_cons_zero]; rfl) (by kernel_rfl) (by kernel_rfl) (by kernel_rfl) (by intro _ _ _ h; exact h) (Or.inl ⟨by rfl, ?_⟩) hHeld ?_
              rotate_left 1
              · intro wq hSw
                try dsimp only at hSw
                go_simp
                try (with_reducible rfl)
              try simp only [Act.put, List.setIfInBounds_toArray, List.set_cons_zero, List.set_cons_succ]
              refine wpAnyH_take (i := 4) (v := ?_) (by simp only [List.getElem?_toArray, List.getElem?_cons_succ, List.getElem?_cons_zero]; rfl) (by kernel_rfl) (by kernel_rfl) (by kernel_rfl) (by intro _ _ _ h; exact h) (Or.inl ⟨by rfl, ?_⟩) hHeld ?_
              rotate_left 1
              · intro wq hSw
                try dsimp only at hSw
                go_simp
                try (with_reducible rfl)
              try simp only [Act.put, List.setIfInBounds_toArray, List.set_cons_zero, List.set_cons_succ]
              refine wpAnyH_take (i := 5) (v := ?_) (by simp only [List.getElem?_toArray, List.getElem?_cons_succ, List.getElem?_cons_zero]; rfl) (by kernel_rfl) (by kernel_rfl) (by kernel_rfl) (by intro _ _ _ h; exact h) (Or.inl ⟨by rfl, ?_⟩) hHeld ?_
              rotate_left 1
              · intro wq hSw
                try dsimp only at hSw
                have x0 := (hSw.cell hgx).trans f2
                go_simp
                try (with_reducible rfl)
              try simp only [Act.put, List.setIfInBounds_toArray, List.set_cons_zero, List.set_cons_succ]
              refine wpAnyH_take (i := 6) (v := ?_) (by simp only [List.getElem?_toArray, List.getElem?_cons_succ, List.getElem?_cons_zero]; rfl) (by kernel_rfl) (by kernel_rfl) (by kernel_rfl) (by intro _ _ _ h; exact h) (Or.inl ⟨by rfl, ?_⟩) hHeld ?_
              rotate_left 1
              · intro wq hSw
                try dsimp only at hSw
                go_simp
                try (with_reducible rfl)
              try simp only [Act.put, List.setIfInBounds_toArray, List.set_cons_zero, List.set_cons_succ]
              refine wpAnyH_take (i := 7) (v := ?_) (by simp only [List.getElem?_toArray, List.getElem?_cons_succ, List.getElem?_cons_zero]; rfl) (by kernel_rfl) (by kernel_rfl) (by kernel_rfl) (by intro _ _ _ h; exact h) (Or.inl ⟨by rfl, ?_⟩) hHeld ?_
              rotate_left 1
              · intro wq hSw
                try dsimp only at hSw
                go_simp
                try (with_reducible rfl)
              try simp only [Act.put, List.setIfInBounds_toArray, List.set_cons_zero, List.set_cons_succ]
              refine wpAnyH_take (i := 8) (v := .bool false) (by simp only [List.getElem?_toArray, List.getElem?_cons_succ, List.getElem?_cons_zero]; rfl) (by kernel_rfl) (by kernel_rfl) (by kernel_rfl) (by intro _ _ _ h; exact h) (Or.inl ⟨by rfl, ?_⟩) hHeld ?_
              · intro wq hSw
                try dsimp only at hSw
                go_simp
                all_goals first
                  | (with_reducible rfl)
                  | (simp; done)
                  | (simp; omega)
              try simp only [Act.put, List.setIfInBounds_toArray, List.set_cons_zero, List.set_cons_succ]
              refine wpAnyH_take (i := 9) (v := ?_) (by simp only [List.getElem?_toArray, List.getElem?_cons_succ, List.getElem?_cons_zero]; rfl) (by kernel_rfl) (by kernel_rfl) (by kernel_rfl) (by intro _ _ _ h; exact h) (Or.inl ⟨by rfl, ?_⟩) hHeld ?_
              rotate_left 1
              · intro wq hSw
                try dsimp only at hSw
                go_simp
                try (with_reducible rfl)
              try simp only [Act.put, List.setIfInBounds_toArray, List.set_cons_zero, List.set_cons_succ]
              refine wpAnyH_take (i := 10) (v := ?_) (by simp only [List.getElem?_toArray, List.getElem?_cons_succ, List.getElem?_cons_zero]; rfl) (by kernel_rfl) (by kernel_rfl) (by kernel_rfl) (by intro _ _ _ h; exact h) (Or.inl ⟨by rfl, ?_⟩) hHeld ?_
              rotate_left 1
              · intro wq hSw
                try dsimp only at hSw
                go_simp
                try (with_reducible rfl)
              try simp only [Act.put, List.setIfInBounds_toArray, List.set_cons_zero, List.set_cons_succ]
              refine wpAnyH_take (i := 11) (v := ?_) (by simp only [List.getElem?_toArray, List.getElem?_cons_succ, List.getElem?_cons_zero]; rfl) (by kernel_rfl) (by kernel_rfl) (by kernel_rfl) (by intro _ _ _ h; exact h) (Or.inl ⟨by rfl, ?_⟩) hHeld ?_
              rotate_left 1
              · intro wq hSw
                try dsimp only at hSw
                obtain ⟨x0, x1, x2, x3, x4, _⟩ := (Bx.under hSw).five
                go_simp
                try (with_reducible rfl)
              try simp only [Act.put, List.setIfInBounds_toArray, List.set_cons_zero, List.set_cons_succ]
              refine wpAnyH_take (i := 12) (v := ?_) (by simp only [List.getElem?_toArray, List.getElem?_cons_succ, List.getElem?_cons_zero]; rfl) (by kernel_rfl) (by kernel_rfl) (by kernel_rfl) (by intro _ _ _ h; exact h) (Or.inl ⟨by rfl, ?_⟩) hHeld ?_
              rotate_left 1
              · intro wq hSw
                try dsimp only at hSw
                go_simp
                try (with_reducible rfl)
              try simp only [Act.put, List.setIfInBounds_toArray, List.set_cons_zero, List.set_cons_succ]
              refine wpAnyH_take (i := 13) (v := ?_) (by simp only [List.getElem?_toArray, List.getElem?_cons_succ, List.getElem?_cons_zero]; rfl) (by kernel_rfl) (by kernel_rfl) (by kernel_rfl) (by intro _ _ _ h; exact h) (Or.inl ⟨by rfl, ?_⟩) hHeld ?_
              rotate_left 1
              · intro wq hSw
                try dsimp only at hSw
                go_simp
                try (with_reducible rfl)
              try simp only [Act.put, List.setIfInBounds_toArray, List.set_cons_zero, List.set_cons_succ]
              refine wpAnyH_take (i := 14) (v := ?_) (by simp only [List.getElem?_toArray, List.getElem?_cons_succ, List.getElem?_cons_zero]; rfl) (by kernel_rfl) (by kernel_rfl) (by kernel_rfl) (by intro _ _ _ h; exact h) (Or.inl ⟨by rfl, ?_⟩) hHeld ?_
              rotate_left 1
              · intro wq hSw
                try dsimp only at hSw
                go_simp
                try (with_reducible rfl)
              try simp only [Act.put, List.setIfInBounds_toArray, List.set_cons_zero, List.set_cons_succ]
              refine wpAnyH_take (i := 15) (v := ?_) (by simp only [List.getElem?_toArray, List.getElem?_cons_succ, List.getElem?_cons_zero]; rfl) (by kernel_rfl) (by kernel_rfl) (by kernel_rfl) (by intro _ _ _ h; exact h) (Or.inl ⟨by rfl, ?_⟩) hHeld ?_
              rotate_left 1
              · intro wq hSw
                try dsimp only at hSw
                have x0 := (hSw.cell hgx).trans f2
                go_simp
                try (with_reducible rfl)
              try simp only [Act.put, List.setIfInBounds_toArray, List.set_cons_zero, List.set_cons_succ]
              refine wpAnyH_take (i := 16) (v := ?_) (by simp only [List.getElem?_toArray, List.getElem?_cons_succ, List.getElem?_cons_zero]; rfl) (by kernel_rfl) (by kernel_rfl) (by kernel_rfl) (by intro _ _ _ h; exact h) (Or.inl ⟨by rfl, ?_⟩) hHeld ?_
              rotate_left 1
              · intro wq hSw
                try dsimp only at hSw
                go_simp
                try (with_reducible rfl)
              try simp only [Act.put, List.setIfInBounds_toArray, List.set_cons_zero, List.set_cons_succ]
              refine wpAnyH_take (i := 17) (v := ?_) (by simp only [List.getElem?_toArray, List.getElem?_cons_succ, List.getElem?_cons_zero]; rfl) (by kernel_rfl) (by kernel_rfl) (by kernel_rfl) (by intro _ _ _ h; exact h) (Or.inl ⟨by rfl, ?_⟩) hHeld ?_
              rotate_left 1
              · intro wq hSw
                try dsimp only at hSw
                go_simp
                try (with_reducible rfl)
              try simp only [Act.put, List.setIfInBounds_toArray, List.set_cons_zero, List.set_cons_succ]
              refine wpAnyH_take (i := 18) (v := ?_) (by simp only [List.getElem?_toArray, List.getElem?_cons_succ, List.getElem?_cons_zero]; rfl) (by kernel_rfl) (by kernel_rfl) (by kernel_rfl) (by intro _ _ _ h; exact h) (Or.inl ⟨by rfl, ?_⟩) hHeld ?_
              rotate_left 1
              · intro wq hSw
                try dsimp only at hSw
                have q := qy wq hSw
                go_simp
                try (with_reducible rfl)
              try simp only [Act.put, List.setIfInBounds_toArray, List.set_cons_zero, List.set_cons_succ]
              refine wpAnyH_take (i := 19) (v := ?_) (by simp only [List.getElem?_toArray, List.getElem?_cons_succ, List.getElem?_cons_zero]; rfl) (by kernel_rfl) (by kernel_rfl) (by kernel_rfl) (by intro _ _ _ h; exact h) (Or.inl ⟨by rfl, ?_⟩) hHeld ?_
              rotate_left 1
              · intro wq hSw
                try dsimp only at hSw
                go_simp
                try (with_reducible rfl)
              try simp only [Act.put, List.setIfInBounds_toArray, List.set_cons_zero, List.set_cons_succ]
              refine wpAnyH_take (i := 20) (v := ?_) (by simp only [List.getElem?_toArray, List.getElem?_cons_succ, List.getElem?_cons_zero]; rfl) (by kernel_rfl) (by kernel_rfl) (by kernel_rfl) (by intro _ _ _ h; exact h) (Or.inl ⟨by rfl, ?_⟩) hHeld ?_
              rotate_left 1
              · intro wq hSw
                try dsimp only at hSw
                obtain ⟨x0, x1, x2, x3, x4, _⟩ := (Bd.under hSw).five
                go_simp
                try (with_reducible rfl)
              try simp only [Act.put, List.setIfInBounds_toArray, List.set_cons_zero, List.set_cons_succ]
              refine wpAnyH_take (i := 21) (v := ?_) (by simp only [List.getElem?_toArray, List.getElem?_cons_succ, List.getElem?_cons_zero]; rfl) (by kernel_rfl) (by kernel_rfl) (by kernel_rfl) (by intro _ _ _ h; exact h) (Or.inl ⟨by rfl, ?_⟩) hHeld ?_
              rotate_left 1
              · intro wq hSw
                try dsimp only at hSw
                go_simp
                try (with_reducible rfl)
              try simp only [Act.put, List.setIfInBounds_toArray, List.set_cons_zero, List.set_cons_succ]
              refine wpAnyH_take (i := 22) (v := ?_) (by simp only [List.getElem?_toArray, List.getElem?_cons_succ, List.getElem?_cons_zero]; rfl) (by kernel_rfl) (by kernel_rfl) (by kernel_rfl) (by intro _ _ _ h; exact h) (Or.inl ⟨by rfl, ?_⟩) hHeld ?_
              rotate_left 1
              · intro wq hSw
                try dsimp only at hSw
                go_simp
                try (with_reducible rfl)
              try simp only [Act.put, List.setIfInBounds_toArray, List.set_cons_zero, List.set_cons_succ]
              refine wpAnyH_take (i := 23) (v := ?_) (by simp only [List.getElem?_toArray, List.getElem?_cons_succ, List.getElem?_cons_zero]; rfl) (by kernel_rfl) (by kernel_rfl) (by kernel_rfl) (by intro _ _ _ h; exact h) (Or.inl ⟨by rfl, ?_⟩) hHeld ?_
              rotate_left 1
              · intro wq hSw
                try dsimp only at hSw
                go_simp
                try (with_reducible rfl)
              try simp only [Act.put, List.setIfInBounds_toArray, List.set_cons_zero, List.set_cons_succ]
              refine wpAnyH_take (i := 24) (v := ?_) (by simp only [List.getElem?_toArray, List.getElem?_cons_succ, List.getElem?_cons_zero]; rfl) (by kernel_rfl) (by kernel_rfl) (by kernel_rfl) (by intro _ _ _ h; exact h) (Or.inl ⟨by rfl, ?_⟩) hHeld ?_
              rotate_left 1
              · intro wq hSw
                try dsimp only at hSw
                have x0 := (hSw.cell hg).trans e2
                go_simp
                try (with_reducible rfl)
              try simp only [Act.put, List.setIfInBounds_toArray, List.set_cons_zero, List.set_cons_succ]
              refine wpAnyH_take (i := 25) (v := ?_) (by simp only [List.getElem?_toArray, List.getElem?_cons_succ, List.getElem?_cons_zero]; rfl) (by kernel_rfl) (by kernel_rfl) (by kernel_rfl) (by intro _ _ _ h; exact h) (Or.inl ⟨by rfl, ?_⟩) hHeld ?_
              rotate_left 1
              · intro wq hSw
                try dsimp only at hSw
                have q := qz wq hSw
                go_simp
                try (with_reducible rfl)
              try simp only [Act.put, List.setIfInBounds_toArray, List.set_cons_zero, List.set_cons_succ]
              refine wpAnyH_take (i := 26) (v := ?_) (by simp only [List.getElem?_toArray, List.getElem?_cons_succ, List.getElem?_cons_zero]; rfl) (by kernel_rfl) (by kernel_rfl) (by kernel_rfl) (by intro _ _ _ h; exact h) (Or.inl ⟨by rfl, ?_⟩) hHeld ?_
              rotate_left 1
              · intro wq hSw
                try dsimp only at hSw
                go_simp
                try (with_reducible rfl)
              try simp only [Act.put, List.setIfInBounds_toArray, List.set_cons_zero, List.set_cons_succ]
              refine wpAnyH_take (i := 27) (v := ?_) (by simp only [List.getElem?_toArray, List.getElem?_cons_succ, List.getElem?_cons_zero]; rfl) (by kernel_rfl) (by kernel_rfl) (by kernel_rfl) (by intro _ _ _ h; exact h) (Or.inl ⟨by rfl, ?_⟩) hHeld ?_
              rotate_left 1
              · intro wq hSw
                try dsimp only at hSw
                go_simp
                try (with_reducible rfl)
              try simp only [Act.put, List.setIfInBounds_toArray, List.set_cons_zero, List.set_cons_succ]
              refine wpAnyH_done (by kernel_rfl) ?_ _
              go_wp2
              go_roundg g'
              case measure => omega
              case rel => exact ⟨j + 1, by have := hj.out; omega, by first | rfl | (simp; done) | (simp; exact wrap64_small (by omega) (by omega)), br.trans (bd.mono br.size)⟩
            · go_wp2
              go_ret
              exact ⟨rfl, bb⟩

theorem LogKeeps_walk (a0_0 : Int) (a0_1 : Option Addr) (len0_1 cap0_1 : Nat) (a0_2 : Int) (a0_3 : Bool) (a0_4 : Int) (a1 : Option Addr) (len1 cap1 : Nat) (w : World) (hT : Tab w) (w0_0 : (Lit.int .i64 a0_0).wf = true) (w0_1 : IsSts [.num .i64, .num .i64, .row .u8, .num .i64] w a0_1 len0_1 cap0_1) (w0_2 : (Lit.int .i64 a0_2).wf = true) (w0_4 : (Lit.int .i64 a0_4).wf = true) (w1 : IsSts [.num .i64, .num .i64, .row .u8] w a1 len1 cap1) :
    Calls Tryd.prog 5 #[.agg #[.int .i64 a0_0, .slice a0_1 len0_1 cap0_1, .int .i64 a0_2, .bool a0_3, .int .i64 a0_4], .slice a1 len1 cap1] w (AwakePost w) := by
  obtain ⟨zs, hz⟩ := zs_of_sts w0_1
  obtain ⟨rs, hr⟩ := recs_of_sts w1
  exact LogKeeps_core a0_0 a0_2 a0_4 a0_3 a0_1 len0_1 cap0_1 zs a1 len1 cap1 rs w hT hz hr (wf_i64 w0_2).2
end Go.Proofs.YtnejiclghnigiaaDoor
