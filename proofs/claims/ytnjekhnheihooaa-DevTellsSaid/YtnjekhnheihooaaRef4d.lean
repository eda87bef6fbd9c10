/-
  The document's Read, Crash (written by gen_ref4d.py).
-/
import Derived.Test.YtnjekhnheihooaaRef4c
namespace Go.Proofs.Ytnjekhnheihooaa
open Go.RowKit Go.Wag
set_option linter.unusedVariables false

set_option maxHeartbeats 1000000 in
theorem refRead4_any {F : Nat → Prop} (size lf dn : Int) (dw : Bool) (A : Option Addr) (n c : Nat) (zs : List Zp) (zn at_ m : Int) (w : World) (h : Zs F w A n c zs) (hsm : Sm zs) (hx : at_ < 9223372036854775808) (hy : m < 9223372036854775808) :
    Calls Try.prog 15 #[.agg #[.int .i64 size, .slice A n c, .int .i64 lf, .bool dw, .int .i64 dn], .int .i64 zn, .int .i64 at_, .int .i64 m] w (ReadPost w size zs zn at_ m) := by
  have hlen := h.len
  subst hlen
  have hcap := h.cap
  have b0 := (Below.refl w.heap.size w).alloc (Nat.le_refl _) (.cells #[.int .i64 size, .slice A zs.length c, .int .i64 lf, .bool dw, .int .i64 dn] 25)
  have B0 := Blk.new w #[.int .i64 size, .slice A zs.length c, .int .i64 lf, .bool dw, .int .i64 dn] 25
  have h1 := h.below b0
  have hs0 : (w.alloc (.cells #[.int .i64 size, .slice A zs.length c, .int .i64 lf, .bool dw, .int .i64 dn] 25)).heap.size = w.heap.size + 1 := by simp
  go_enter Try.func15, Try.ntmps15
  go_wp2_with fail
  generalize w.alloc (.cells #[.int .i64 size, .slice A zs.length c, .int .i64 lf, .bool dw, .int .i64 dn] 25) = w0 at *
  refine (refCheck4_any size lf dn dw A zs.length c zs w0 h1).mono ?_
  rintro e w1 ⟨rfl, b1⟩
  have b2 := b0.trans (b1.mono (by omega))
  replace h1 := h1.below b1
  replace B0 := B0.under b1
  obtain ⟨p0, p1, p2, p3, p4, _⟩ := B0.five
  cases hc : devF size zs with
  | false =>
    have hno : Hid (rdOk size zs zn at_ m = false) := by show rdOk size zs zn at_ m = false; simp [rdOk, hc]
    go_wp2
    go_ret2
    exact ReadPost.no hno.out b2
  | true =>
    by_cases hz0 : zn < 0
    · have hno : Hid (rdOk size zs zn at_ m = false) := by show rdOk size zs zn at_ m = false; simp [rdOk]; omega
      go_wp2
      go_ret2
      exact ReadPost.no hno.out b2
    by_cases hz1 : (zs.length : Int) ≤ zn
    · have hno : Hid (rdOk size zs zn at_ m = false) := by show rdOk size zs zn at_ m = false; simp [rdOk]; omega
      go_wp2
      go_ret2
      exact ReadPost.no hno.out b2
    by_cases ha0 : at_ < 0
    · have hno : Hid (rdOk size zs zn at_ m = false) := by show rdOk size zs zn at_ m = false; simp [rdOk]; omega
      go_wp2
      go_ret2
      exact ReadPost.no hno.out b2
    by_cases hm0 : m < 0
    · have hno : Hid (rdOk size zs zn at_ m = false) := by show rdOk size zs zn at_ m = false; simp [rdOk]; omega
      go_wp2
      go_ret2
      exact ReadPost.no hno.out b2
    have ha1 : ((at_.toNat : Nat) : Int) = at_ := by omega
    have hm1 : ((m.toNat : Nat) : Int) = m := by omega
    obtain ⟨gb, o, z, Ai, ci, rfl, hF, hg, hz, c0, c1, c2, c3, hS, hA⟩ := h1.at_ (show zn.toNat < zs.length by omega)
    have hzl := hsm.at_ hz
    have hrd : Hid (rdOk size zs zn at_ m = decide (m ≤ (z.l.length : Int) - at_)) := by
      show rdOk size zs zn at_ m = _
      simp [rdOk, hc, hz]
      omega
    have hrf : Hid (rdF size zs zn at_ m = (z.l.take (at_ + m).toNat).drop at_.toNat) := by
      show rdF size zs zn at_ m = _
      simp [rdF, hz]
    have hw1 : wrap64 ((z.l.length : Int) - at_) = (z.l.length : Int) - at_ := wrap64_small (by omega) (by omega)
    by_cases hga : (z.l.length : Int) < at_
    · have hno : Hid (rdOk size zs zn at_ m = false) := by show rdOk size zs zn at_ m = false; rw [hrd.out]; simp; omega
      clear ha1 hm1 hS hA hz hw1
      go_wp2
      go_ret2
      exact ReadPost.no hno.out b2
    by_cases hgt : (z.l.length : Int) - at_ < m
    · have hno : Hid (rdOk size zs zn at_ m = false) := by show rdOk size zs zn at_ m = false; rw [hrd.out]; simp; omega
      clear ha1 hm1 hS hA hz
      go_wp2
      go_ret2
      exact ReadPost.no hno.out b2
    · have hyes : Hid (rdOk size zs zn at_ m = true) := by show rdOk size zs zn at_ m = true; rw [hrd.out]; simp; omega
      have hw2 : wrap64 (at_ + m) = at_ + m := wrap64_small (by omega) (by omega)
      have hci := hS.cap
      have hcut := fun W => run_cut2 (P := Try.prog) 31 5 un22 el22 sz5 Ai z.l.length ci .i64 .i64 at_ (at_ + m) at_.toNat (at_ + m).toNat (by omega) (by omega) (by omega) (by omega) W
      have hS2 := hS.cut (k := at_.toNat) (m := (at_ + m).toNat) (by omega) (by omega)
      obtain ⟨k, hk⟩ : ∃ k : Nat, (at_ + m).toNat - at_.toNat = k := ⟨_, rfl⟩
      have hl2 : Hid (k = (rdF size zs zn at_ m).length) := by
        show _ = _
        rw [← hk, hrf.out, List.length_drop, List.length_take]
        omega
      have hkq : k ≤ 1048576 := by omega
      simp only [hk] at hcut hS2
      rw [← List.map_take, ← List.map_drop, ← hrf.out] at hS2
      have HO := Own.empty w1 5
      have hS3 := hS2.alloc (.cells #[] 5)
      obtain ⟨i0, hi, hzz0, hzz1, hzz2⟩ := info_parts i5
      clear ha1 hm1 hS hA hz hci hk
      go_wp2_with (at_builtin
                   refine wpList_app rfl (.tmp 53) (.tmp 59) 31 rfl rfl HO i0 (.int .u8 0) 1 Try.underlying31 hi hzz0 hzz1 hzz2 rfl _ _ _ _ rfl hS3 (oneCell8 _) (by omega) (by omega) ?_
                   intro A2 c2' w2 hw2)
      rw [List.nil_append, Nat.zero_add] at hw2
      try simp only [Nat.zero_add]
      go_ret2
      refine .inl ⟨hyes.out, A2, c2', ?_, ?_, b2.trans (hw2.below_made.mono b2.size)⟩
      · rw [← hl2.out]
        rfl
      · rw [← hl2.out]
        exact Nw.mono (w1 := w1) hw2.own (by have := b1.size; omega)

set_option maxRecDepth 20000 in
set_option maxHeartbeats 2000000 in
theorem refCrash4_any {F : Nat → Prop} (size lf dn : Int) (dw : Bool) (A : Option Addr) (n c : Nat) (zs : List Zp) (Ak : Option Addr) (nk ck : Nat) (ks : List Int) (w : World) (h : Zs F w A n c zs) (hsm : Sm zs) (hs : Sl w Ak nk ck (ks.map iv)) (hf : fits ks) :
    Calls Try.prog 18 #[.agg #[.int .i64 size, .slice A n c, .int .i64 lf, .bool dw, .int .i64 dn], .slice Ak nk ck] w (DC w size (cdLf size lf zs) dn (cdDw size dw zs) (cdZs size ks zs) n) := by
  have hlen := h.len
  have hcap := h.cap
  have hn := hsm.1
  obtain rfl : ks.length = nk := by simpa using hs.len
  have Bd := (Blk.new w #[.int .i64 size, .slice A n c, .int .i64 lf, .bool dw, .int .i64 dn] 25).alloc (.cells #[.int .i64 0, .slice none 0 0, .int .i64 0, .bool false, .int .i64 0] 25)
  have Br := Blk.new (w.alloc (.cells #[.int .i64 size, .slice A n c, .int .i64 lf, .bool dw, .int .i64 dn] 25)) #[.int .i64 0, .slice none 0 0, .int .i64 0, .bool false, .int .i64 0] 25
  have bb := ((Below.refl w.heap.size w).alloc (Nat.le_refl _) (.cells #[.int .i64 size, .slice A n c, .int .i64 lf, .bool dw, .int .i64 dn] 25)).alloc (by simp) (.cells #[.int .i64 0, .slice none 0 0, .int .i64 0, .bool false, .int .i64 0] 25)
  have hs0 : ((w.alloc (.cells #[.int .i64 size, .slice A n c, .int .i64 lf, .bool dw, .int .i64 dn] 25)).alloc (.cells #[.int .i64 0, .slice none 0 0, .int .i64 0, .bool false, .int .i64 0] 25)).heap.size = w.heap.size + 2 := by simp
  simp only [World.size_alloc] at Br
  have h1 := h.below bb
  go_enter Try.func18, Try.ntmps18
  go_wp2_with fail
  generalize ((w.alloc (.cells #[.int .i64 size, .slice A n c, .int .i64 lf, .bool dw, .int .i64 dn] 25)).alloc (.cells #[.int .i64 0, .slice none 0 0, .int .i64 0, .bool false, .int .i64 0] 25)) = w0 at *
  refine (refCopy4_any size lf dn dw A n c zs w0 h1 hsm).mono ?_
  rintro e w1 ⟨A1, c1, rfl, Z1, hZr, b1⟩
  have hz1 := b1.size
  have hc1big := Z1.big
  replace Bd := Bd.under b1
  replace Br := Br.under b1
  replace h1 := h1.below b1
  replace bb := bb.trans (b1.mono (by omega))
  obtain ⟨p0, p1, p2, p3, p4, _⟩ := Bd.five
  have hl1 := Bd.lt
  go_wp2_with fail
  clear p0 p1 p2 p3 p4
  have Bo := Blk.new w1 #[.int .i64 size, .slice A1 n c1, .int .i64 lf, .bool dw, .int .i64 dn] 25
  replace Bd := Bd.alloc (.cells #[.int .i64 size, .slice A1 n c1, .int .i64 lf, .bool dw, .int .i64 dn] 25)
  replace Br := Br.alloc (.cells #[.int .i64 size, .slice A1 n c1, .int .i64 lf, .bool dw, .int .i64 dn] 25)
  replace h1 := h1.alloc (.cells #[.int .i64 size, .slice A1 n c1, .int .i64 lf, .bool dw, .int .i64 dn] 25)
  replace Z1 := (Z1.imp (F' := fun b => w.heap.size + 2 ≤ b ∧ b ≠ w1.heap.size) (fun b hb hf => ⟨by omega, by omega⟩)).alloc (.cells #[.int .i64 size, .slice A1 n c1, .int .i64 lf, .bool dw, .int .i64 dn] 25)
  replace hZr : Hid (0 < n → ∃ g, A1 = some ⟨g, 0, none⟩ ∧ n ≤ c1 ∧ Zr (fun b => w.heap.size + 2 ≤ b ∧ b ≠ w1.heap.size) 46 (w1.alloc (.cells #[.int .i64 size, .slice A1 n c1, .int .i64 lf, .bool dw, .int .i64 dn] 25)) g zs) := fun hp => by
    obtain ⟨g, q1, q2, q3⟩ := hZr hp
    exact ⟨g, q1, q2, (q3.imp (fun b hb hf => ⟨by omega, by omega⟩)).alloc _⟩
  replace bb := bb.alloc bb.size (.cells #[.int .i64 size, .slice A1 n c1, .int .i64 lf, .bool dw, .int .i64 dn] 25)
  obtain ⟨ko, hko⟩ : ∃ k, w1.heap.size = k := ⟨_, rfl⟩
  have hko2 : w.heap.size + 2 ≤ ko := by omega
  simp only [hko] at Bo Z1 hZr ⊢
  generalize w1.alloc (.cells #[.int .i64 size, .slice A1 n c1, .int .i64 lf, .bool dw, .int .i64 dn] 25) = w2 at *
  clear hko hl1 hz1 b1 hs0
  refine (refCheck4_any size lf dn dw A n c zs w2 h1).mono ?_
  rintro e w3 ⟨rfl, b3⟩
  replace Bd := Bd.under b3
  replace Br := Br.under b3
  replace Bo := Bo.under b3
  replace h1 := h1.below b3
  replace Z1 := Z1.below b3
  replace bb := bb.trans (b3.mono bb.size)
  cases hc : devF size zs with
  | false =>
    have e1 : Hid (cdLf size lf zs = lf) := by show cdLf size lf zs = lf; simp [cdLf, hc]
    have e2 : Hid (cdDw size dw zs = dw) := by show cdDw size dw zs = dw; simp [cdDw, hc]
    have e3 : Hid (cdZs size ks zs = zs) := by show cdZs size ks zs = zs; simp [cdZs, hc]
    obtain ⟨x0, x1, x2, x3, x4, _⟩ := Bo.five
    obtain ⟨r0, r1, r2, r3, r4, y0, y1, y2, y3, y4⟩ := Br.five
    go_wp2
    try simp only [Exit.inBlock, Exit.then]
    rw [e1.out, e2.out, e3.out]
    have hF : ¬ (w.heap.size + 2 ≤ w.heap.size + 1 ∧ w.heap.size + 1 ≠ ko) := by omega
    refine ret_blk rfl rfl (((((Br.set 0 _).set 1 _).set 2 _).set 3 _).set 4 _) Try.underlying25 (by kernel_rfl) ⟨A1, c1, rfl, ?_, ((((bb.setCell (by simp) _).setCell (by simp) _).setCell (by simp) _).setCell (by simp) _).setCell (by simp) _⟩
    exact (((((Z1.far (a := ⟨w.heap.size + 1, 0, none⟩) hF _).far (a := ⟨w.heap.size + 1, 1, none⟩) hF _).far (a := ⟨w.heap.size + 1, 2, none⟩) hF _).far (a := ⟨w.heap.size + 1, 3, none⟩) hF _).far (a := ⟨w.heap.size + 1, 4, none⟩) hF _).imp (fun b _ hb => by omega)
  | true =>
    have e1 : Hid (cdLf size lf zs = -1) := by show cdLf size lf zs = -1; simp [cdLf, hc]
    have e2 : Hid (cdDw size dw zs = false) := by show cdDw size dw zs = false; simp [cdDw, hc]
    have e3 : Hid (cdZs size ks zs = crZs size ks zs) := by show cdZs size ks zs = crZs size ks zs; simp [cdZs, hc]
    have hn0 : 0 < n := by
      have := (dev_parts.1 hc).1
      simp only [mayF, decide_eq_true_eq] at this
      omega
    obtain ⟨g, rfl, hnc, Z2⟩ := hZr.out hn0
    replace Z2 := Z2.under b3
    clear Z1 hZr
    go_wp2_with fail
    go_loopg [7] n (fun gg i wr => ∃ k : Nat, k + gg = n ∧ i = .int .i64 (k : Int) ∧ ∃ L : List Zp, Hid (L.length = n ∧ ∀ i, i < k → L[i]? = (crZs size ks zs)[i]?) ∧ Zr (fun b => w.heap.size + 2 ≤ b ∧ b ≠ ko) 46 wr g L ∧ Blk wr w.heap.size #[.int .i64 size, .slice A n c, .int .i64 lf, .bool dw, .int .i64 dn] 25 ∧ Blk wr (w.heap.size + 1) #[.int .i64 0, .slice none 0 0, .int .i64 0, .bool false, .int .i64 0] 25 ∧ Blk wr ko #[.int .i64 size, .slice (some ⟨g, 0, none⟩) n c1, .int .i64 lf, .bool dw, .int .i64 dn] 25 ∧ Below w.heap.size w wr)
    case atStart => exact ⟨0, by omega, rfl, zs, ⟨hlen, fun i hi => absurd hi (by omega)⟩, Z2, Bd, Br, Bo, bb⟩
    case round =>
      clear Z2 Bd Br Bo bb
      obtain ⟨k, hk, rfl, L, hL, Z2, Bd, Br, Bo, bb⟩ := hrel
      obtain ⟨p0, p1, p2, p3, p4, _⟩ := Bd.five
      by_cases hlt : (k : Int) < (n : Int)
      · obtain ⟨gg, rfl⟩ : ∃ g, gk = g + 1 := ⟨gk - 1, by omega⟩
        obtain ⟨gb, o, z, Ai, ci, rfl, _, hg, hz, c0, c1', c2, c3, hS, _⟩ := h.at_ (show k < n by omega)
        have hzl := hsm.at_ hz
        replace hk : Hid _ := hk
        have hkL : k < L.length := by rw [hL.out.1]; omega
        replace hz : Hid _ := hz
        have hgl := Z2.lt
        have hgF := Z2.base
        have hko3 := Bo.lt
        have hS0 := hs.below bb
        by_cases hkk : (k : Int) < (ks.length : Int)
        · obtain ⟨ad, u, hade, hab, hu, hcu⟩ := hS0.at_ (show k < ks.length by omega)
          subst hade
          have hkn : keepAt ks k = ks[k]'(by omega) := by simp [keepAt, List.getD_eq_getElem?_getD, List.getElem?_eq_getElem (show k < ks.length by omega)]
          have hux : u = .int .i64 (keepAt ks k) := by
            rw [hkn]
            rw [List.getElem?_map, List.getElem?_eq_getElem (show k < ks.length by omega)] at hu
            exact (Option.some.inj hu).symm
          have hfi : -9223372036854775808 ≤ keepAt ks k ∧ keepAt ks k < 9223372036854775808 := by rw [hkn]; exact hf _ (List.getElem_mem _)
          have hkc := hS0.cap
          clear hu hkn hS0
          subst hux
          obtain ⟨keep, hkeep⟩ : ∃ x, Hid (keepAt ks k = x) := ⟨_, rfl⟩
          rw [hkeep.out] at hcu hfi
          go_wp2_with fail
          clear p0 p1 p2 p3 p4
          refine wp_region_held_drew (S := fun w' => Below w.heap.size w w' ∧ Blk w' w.heap.size #[.int .i64 size, .slice (some ⟨gb, o, none⟩) n c, .int .i64 lf, .bool dw, .int .i64 dn] 25 ∧ Blk w' ko #[.int .i64 size, .slice (some ⟨g, 0, none⟩) n c1, .int .i64 lf, .bool dw, .int .i64 dn] 25) (by kernel_rfl) ⟨bb.drew, Bd, Bo⟩ (fun hHeld => ?_)
          try dsimp only at hHeld
          have bd : Below wr.heap.size wr wr.drew := (Below.refl wr.heap.size wr).drew
          have bbd := hHeld.1
          have Bdd := hHeld.2.1
          have Bod := hHeld.2.2
          have hwd : wr.heap.size ≤ wr.drew.heap.size := bd.size
          generalize wr.drew = wd at *
          try simp only [Act.put, List.setIfInBounds_toArray, List.set_cons_zero, List.set_cons_succ]
          refine wpAnyH_take (i := 0) (v := ?_) (by simp only [List.getElem?_toArray, List.getElem?_cons_zero]; rfl) (by kernel_rfl) (by kernel_rfl) (by kernel_rfl) (by intro _ _ _ h; exact h) (Or.inl ⟨by rfl, ?_⟩) hHeld ?_
          rotate_left 1
          · intro wq hSw
            try dsimp only at hSw
            go_simp
            try (with_reducible rfl)
          try simp only [Act.put, List.setIfInBounds_toArray, List.set_cons_zero, List.set_cons_succ]
          refine wpAnyH_take (i := 1) (v := ?_) (by simp only [List.getElem?_toArray, List.getElem?_cons_succ, List.getElem?_cons_zero]; rfl) (by kernel_rfl) (by kernel_rfl) (by kernel_rfl) (by intro _ _ _ h; exact h) (Or.inl ⟨by rfl, ?_⟩) hHeld ?_
          rotate_left 1
          · intro wq hSw
            try dsimp only at hSw
            obtain ⟨x0, x1, x2, x3, x4, _⟩ := hSw.2.2.five
            go_simp
            try (with_reducible rfl)
          try simp only [Act.put, List.setIfInBounds_toArray, List.set_cons_zero, List.set_cons_succ]
          refine wpAnyH_take (i := 2) (v := ?_) (by simp only [List.getElem?_toArray, List.getElem?_cons_succ, List.getElem?_cons_zero]; rfl) (by kernel_rfl) (by kernel_rfl) (by kernel_rfl) (by intro _ _ _ h; exact h) (Or.inl ⟨by rfl, ?_⟩) hHeld ?_
          rotate_left 1
          · intro wq hSw
            try dsimp only at hSw
            go_simp
            try (with_reducible rfl)
          try simp only [Act.put, List.setIfInBounds_toArray, List.set_cons_zero, List.set_cons_succ]
          refine wpAnyH_take (i := 3) (v := ?_) (by simp only [List.getElem?_toArray, List.getElem?_cons_succ, List.getElem?_cons_zero]; rfl) (by kernel_rfl) (by kernel_rfl) (by kernel_rfl) (by intro _ _ _ h; exact h) (Or.inl ⟨by rfl, ?_⟩) hHeld ?_
          rotate_left 1
          · intro wq hSw
            try dsimp only at hSw
            go_simp
            try (with_reducible rfl)
          try simp only [Act.put, List.setIfInBounds_toArray, List.set_cons_zero, List.set_cons_succ]
          refine wpAnyH_take (i := 4) (v := ?_) (by simp only [List.getElem?_toArray, List.getElem?_cons_succ, List.getElem?_cons_zero]; rfl) (by kernel_rfl) (by kernel_rfl) (by kernel_rfl) (by intro _ _ _ h; exact h) (Or.inl ⟨by rfl, ?_⟩) hHeld ?_
          rotate_left 1
          · intro wq hSw
            try dsimp only at hSw
            obtain ⟨x0, x1, x2, x3, x4, _⟩ := hSw.2.1.five
            go_simp
            try (with_reducible rfl)
          try simp only [Act.put, List.setIfInBounds_toArray, List.set_cons_zero, List.set_cons_succ]
          refine wpAnyH_take (i := 5) (v := ?_) (by simp only [List.getElem?_toArray, List.getElem?_cons_succ, List.getElem?_cons_zero]; rfl) (by kernel_rfl) (by kernel_rfl) (by kernel_rfl) (by intro _ _ _ h; exact h) (Or.inl ⟨by rfl, ?_⟩) hHeld ?_
          rotate_left 1
          · intro wq hSw
            try dsimp only at hSw
            go_simp
            try (with_reducible rfl)
          try simp only [Act.put, List.setIfInBounds_toArray, List.set_cons_zero, List.set_cons_succ]
          refine wpAnyH_take (i := 6) (v := ?_) (by simp only [List.getElem?_toArray, List.getElem?_cons_succ, List.getElem?_cons_zero]; rfl) (by kernel_rfl) (by kernel_rfl) (by kernel_rfl) (by intro _ _ _ h; exact h) (Or.inl ⟨by rfl, ?_⟩) hHeld ?_
          rotate_left 1
          · intro wq hSw
            try dsimp only at hSw
            go_simp
            try (with_reducible rfl)
          try simp only [Act.put, List.setIfInBounds_toArray, List.set_cons_zero, List.set_cons_succ]
          refine wpAnyH_take (i := 7) (v := ?_) (by simp only [List.getElem?_toArray, List.getElem?_cons_succ, List.getElem?_cons_zero]; rfl) (by kernel_rfl) (by kernel_rfl) (by kernel_rfl) (by intro _ _ _ h; exact h) (Or.inl ⟨by rfl, ?_⟩) hHeld ?_
          rotate_left 1
          · intro wq hSw
            try dsimp only at hSw
            have y0 := (hSw.1.cell hg).trans c0
            have y1 := (hSw.1.cell hg).trans c1'
            have y2 := (hSw.1.cell hg).trans c2
            have y3 := (hSw.1.cell hg).trans c3
            go_simp
            try (with_reducible rfl)
          try simp only [Act.put, List.setIfInBounds_toArray, List.set_cons_zero, List.set_cons_succ]
          refine wpAnyH_take (i := 8) (v := ?_) (by simp only [List.getElem?_toArray, List.getElem?_cons_succ, List.getElem?_cons_zero]; rfl) (by kernel_rfl) (by kernel_rfl) (by kernel_rfl) (by intro _ _ _ h; exact h) (Or.inl ⟨by rfl, ?_⟩) hHeld ?_
          rotate_left 1
          · intro wq hSw
            try dsimp only at hSw
            go_simp
            try (with_reducible rfl)
          try simp only [Act.put, List.setIfInBounds_toArray, List.set_cons_zero, List.set_cons_succ]
          refine wpAnyH_take (i := 9) (v := ?_) (by simp only [List.getElem?_toArray, List.getElem?_cons_succ, List.getElem?_cons_zero]; rfl) (by kernel_rfl) (by kernel_rfl) (by kernel_rfl) (by intro _ _ _ h; exact h) (Or.inl ⟨by rfl, ?_⟩) hHeld ?_
          rotate_left 1
          · intro wq hSw
            try dsimp only at hSw
            obtain ⟨x0, x1, x2, x3, x4, _⟩ := hSw.2.1.five
            go_simp
            try (with_reducible rfl)
          try simp only [Act.put, List.setIfInBounds_toArray, List.set_cons_zero, List.set_cons_succ]
          refine wpAnyH_take (i := 10) (v := ?_) (by simp only [List.getElem?_toArray, List.getElem?_cons_succ, List.getElem?_cons_zero]; rfl) (by kernel_rfl) (by kernel_rfl) (by kernel_rfl) (by intro _ _ _ h; exact h) (Or.inl ⟨by rfl, ?_⟩) hHeld ?_
          rotate_left 1
          · intro wq hSw
            try dsimp only at hSw
            go_simp
            try (with_reducible rfl)
          try simp only [Act.put, List.setIfInBounds_toArray, List.set_cons_zero, List.set_cons_succ]
          refine wpAnyH_ready (rs := [11]) (by kernel_rfl) (by simp) ?_
          refine AllReadyH.cons (by simp only [List.getElem?_toArray, List.getElem?_cons_succ, List.getElem?_cons_zero]; rfl) (fun K hK => ?_) AllReadyH.nil
          have hC := refCrash3_any z.st z.rs z.la size keep Ai z.l.length ci z.l wd (hS.below bbd) (by omega) hfi.1 hfi.2
          go_simp
          refine hC.mono ?_
          clear hC
          rintro e w5 ⟨A5, n5, c5, rfl, N5, b5⟩
          go_wp2_with fail
          refine hK.out _ _ (⟨bbd.trans (b5.mono bbd.size), Bdd.under b5, Bod.under b5⟩) (fun hHeld => ?_)
          clear hK K
          try dsimp only at hHeld
          try simp only [Act.put, List.setIfInBounds_toArray, List.set_cons_zero, List.set_cons_succ]
          refine wpAnyH_take (i := 12) (v := ?_) (by simp only [List.getElem?_toArray, List.getElem?_cons_succ, List.getElem?_cons_zero]; rfl) (by kernel_rfl) (by kernel_rfl) (by kernel_rfl) (by intro _ _ _ h; exact h) (Or.inl ⟨by rfl, ?_⟩) hHeld ?_
          rotate_left 1
          · intro wq hSw
            try dsimp only at hSw
            go_simp
            try (with_reducible rfl)
          try simp only [Act.put, List.setIfInBounds_toArray, List.set_cons_zero, List.set_cons_succ]
          refine wpAnyH_ready (rs := [13]) (by kernel_rfl) (by simp) ?_
          refine AllReadyH.cons (by simp only [List.getElem?_toArray, List.getElem?_cons_succ, List.getElem?_cons_zero]; rfl) (fun K hK => ?_) AllReadyH.nil
          obtain rfl : (crZ size keep z).l.length = n5 := N5.sl.len8
          have Z3 := (Z2.under bd).under b5
          obtain ⟨⟨q0, q1, q2, q3, d0, d1, d2, d3⟩, f0, f1, f2, f3⟩ := Z3.cells hkL
          have hbz := bd.size
          have Z4 := Z3.set hkL (crZ size keep z) N5.sl (fun _ ad e => by
            have h1 := N5.fr ad e
            exact ⟨⟨by omega, by omega⟩, by omega⟩)
          have hg1 : g ≠ w.heap.size := by omega
          have hg2 : g ≠ ko := hgF.2
          have hg3 : w.heap.size ≤ g := by omega
          have hg4 : g ≠ w.heap.size + 1 := by omega
          have Bd9 := Bdd.under b5
          have Bo9 := Bod.under b5
          have Br9 := (Br.under bd).under b5
          have b9 := bbd.trans (b5.mono bbd.size)
          go_simp
          refine hK.out _ _ (⟨(((b9.setCell hg3 _).setCell hg3 _).setCell hg3 _).setCell hg3 _, (((Bd9.far (Ne.symm hg1) _).far (Ne.symm hg1) _).far (Ne.symm hg1) _).far (Ne.symm hg1) _, (((Bo9.far (Ne.symm hg2) _).far (Ne.symm hg2) _).far (Ne.symm hg2) _).far (Ne.symm hg2) _⟩) (fun hHeld => ?_)
          clear hK K
          try dsimp only at hHeld
          try simp only [Act.put, List.setIfInBounds_toArray, List.set_cons_zero, List.set_cons_succ]
          refine wpAnyH_done (by kernel_rfl) ?_ _
          go_wp2
          go_roundg gg
          case measure => omega
          case rel =>
            refine ⟨k + 1, by have := hk.out; omega, by first | rfl | (simp; done), _, ⟨by rw [List.length_set]; exact hL.out.1, fun i hi => ?_⟩, Z4, hHeld.2.1, (((Br9.far (Ne.symm hg4) _).far (Ne.symm hg4) _).far (Ne.symm hg4) _).far (Ne.symm hg4) _, hHeld.2.2, hHeld.1⟩
            rw [List.getElem?_set]
            by_cases hki : k = i
            · subst hki
              rw [if_pos rfl, if_pos hkL, crZs, List.getElem?_mapIdx, hz.out, ← hkeep.out]
              rfl
            · rw [if_neg hki]
              exact hL.out.2 i (by omega)
        · have hkeep : Hid (keepAt ks k = 0) := by show keepAt ks k = 0; simp [keepAt, List.getD_eq_getElem?_getD, List.getElem?_eq_none (show ks.length ≤ k by omega)]
          clear hS0
          go_wp2_with fail
          clear p0 p1 p2 p3 p4
          have hfi : -9223372036854775808 ≤ (0 : Int) ∧ (0 : Int) < 9223372036854775808 := by decide
          refine wp_region_held_drew (S := fun w' => Below w.heap.size w w' ∧ Blk w' w.heap.size #[.int .i64 size, .slice (some ⟨gb, o, none⟩) n c, .int .i64 lf, .bool dw, .int .i64 dn] 25 ∧ Blk w' ko #[.int .i64 size, .slice (some ⟨g, 0, none⟩) n c1, .int .i64 lf, .bool dw, .int .i64 dn] 25) (by kernel_rfl) ⟨bb.drew, Bd, Bo⟩ (fun hHeld => ?_)
          try dsimp only at hHeld
          have bd : Below wr.heap.size wr wr.drew := (Below.refl wr.heap.size wr).drew
          have bbd := hHeld.1
          have Bdd := hHeld.2.1
          have Bod := hHeld.2.2
          have hwd : wr.heap.size ≤ wr.drew.heap.size := bd.size
          generalize wr.drew = wd at *
          try simp only [Act.put, List.setIfInBounds_toArray, List.set_cons_zero, List.set_cons_succ]
          refine wpAnyH_take (i := 0) (v := ?_) (by simp only [List.getElem?_toArray, List.getElem?_cons_zero]; rfl) (by kernel_rfl) (by kernel_rfl) (by kernel_rfl) (by intro _ _ _ h; exact h) (Or.inl ⟨by rfl, ?_⟩) hHeld ?_
          rotate_left 1
          · intro wq hSw
            try dsimp only at hSw
            go_simp
            try (with_reducible rfl)
          try simp only [Act.put, List.setIfInBounds_toArray, List.set_cons_zero, List.set_cons_succ]
          refine wpAnyH_take (i := 1) (v := ?_) (by simp only [List.getElem?_toArray, List.getElem?_cons_succ, List.getElem?_cons_zero]; rfl) (by kernel_rfl) (by kernel_rfl) (by kernel_rfl) (by intro _ _ _ h; exact h) (Or.inl ⟨by rfl, ?_⟩) hHeld ?_
          rotate_left 1
          · intro wq hSw
            try dsimp only at hSw
            obtain ⟨x0, x1, x2, x3, x4, _⟩ := hSw.2.2.five
            go_simp
            try (with_reducible rfl)
          try simp only [Act.put, List.setIfInBounds_toArray, List.set_cons_zero, List.set_cons_succ]
          refine wpAnyH_take (i := 2) (v := ?_) (by simp only [List.getElem?_toArray, List.getElem?_cons_succ, List.getElem?_cons_zero]; rfl) (by kernel_rfl) (by kernel_rfl) (by kernel_rfl) (by intro _ _ _ h; exact h) (Or.inl ⟨by rfl, ?_⟩) hHeld ?_
          rotate_left 1
          · intro wq hSw
            try dsimp only at hSw
            go_simp
            try (with_reducible rfl)
          try simp only [Act.put, List.setIfInBounds_toArray, List.set_cons_zero, List.set_cons_succ]
          refine wpAnyH_take (i := 3) (v := ?_) (by simp only [List.getElem?_toArray, List.getElem?_cons_succ, List.getElem?_cons_zero]; rfl) (by kernel_rfl) (by kernel_rfl) (by kernel_rfl) (by intro _ _ _ h; exact h) (Or.inl ⟨by rfl, ?_⟩) hHeld ?_
          rotate_left 1
          · intro wq hSw
            try dsimp only at hSw
            go_simp
            try (with_reducible rfl)
          try simp only [Act.put, List.setIfInBounds_toArray, List.set_cons_zero, List.set_cons_succ]
          refine wpAnyH_take (i := 4) (v := ?_) (by simp only [List.getElem?_toArray, List.getElem?_cons_succ, List.getElem?_cons_zero]; rfl) (by kernel_rfl) (by kernel_rfl) (by kernel_rfl) (by intro _ _ _ h; exact h) (Or.inl ⟨by rfl, ?_⟩) hHeld ?_
          rotate_left 1
          · intro wq hSw
            try dsimp only at hSw
            obtain ⟨x0, x1, x2, x3, x4, _⟩ := hSw.2.1.five
            go_simp
            try (with_reducible rfl)
          try simp only [Act.put, List.setIfInBounds_toArray, List.set_cons_zero, List.set_cons_succ]
          refine wpAnyH_take (i := 5) (v := ?_) (by simp only [List.getElem?_toArray, List.getElem?_cons_succ, List.getElem?_cons_zero]; rfl) (by kernel_rfl) (by kernel_rfl) (by kernel_rfl) (by intro _ _ _ h; exact h) (Or.inl ⟨by rfl, ?_⟩) hHeld ?_
          rotate_left 1
          · intro wq hSw
            try dsimp only at hSw
            go_simp
            try (with_reducible rfl)
          try simp only [Act.put, List.setIfInBounds_toArray, List.set_cons_zero, List.set_cons_succ]
          refine wpAnyH_take (i := 6) (v := ?_) (by simp only [List.getElem?_toArray, List.getElem?_cons_succ, List.getElem?_cons_zero]; rfl) (by kernel_rfl) (by kernel_rfl) (by kernel_rfl) (by intro _ _ _ h; exact h) (Or.inl ⟨by rfl, ?_⟩) hHeld ?_
          rotate_left 1
          · intro wq hSw
            try dsimp only at hSw
            go_simp
            try (with_reducible rfl)
          try simp only [Act.put, List.setIfInBounds_toArray, List.set_cons_zero, List.set_cons_succ]
          refine wpAnyH_take (i := 7) (v := ?_) (by simp only [List.getElem?_toArray, List.getElem?_cons_succ, List.getElem?_cons_zero]; rfl) (by kernel_rfl) (by kernel_rfl) (by kernel_rfl) (by intro _ _ _ h; exact h) (Or.inl ⟨by rfl, ?_⟩) hHeld ?_
          rotate_left 1
          · intro wq hSw
            try dsimp only at hSw
            have y0 := (hSw.1.cell hg).trans c0
            have y1 := (hSw.1.cell hg).trans c1'
            have y2 := (hSw.1.cell hg).trans c2
            have y3 := (hSw.1.cell hg).trans c3
            go_simp
            try (with_reducible rfl)
          try simp only [Act.put, List.setIfInBounds_toArray, List.set_cons_zero, List.set_cons_succ]
          refine wpAnyH_take (i := 8) (v := ?_) (by simp only [List.getElem?_toArray, List.getElem?_cons_succ, List.getElem?_cons_zero]; rfl) (by kernel_rfl) (by kernel_rfl) (by kernel_rfl) (by intro _ _ _ h; exact h) (Or.inl ⟨by rfl, ?_⟩) hHeld ?_
          rotate_left 1
          · intro wq hSw
            try dsimp only at hSw
            go_simp
            try (with_reducible rfl)
          try simp only [Act.put, List.setIfInBounds_toArray, List.set_cons_zero, List.set_cons_succ]
          refine wpAnyH_take (i := 9) (v := ?_) (by simp only [List.getElem?_toArray, List.getElem?_cons_succ, List.getElem?_cons_zero]; rfl) (by kernel_rfl) (by kernel_rfl) (by kernel_rfl) (by intro _ _ _ h; exact h) (Or.inl ⟨by rfl, ?_⟩) hHeld ?_
          rotate_left 1
          · intro wq hSw
            try dsimp only at hSw
            obtain ⟨x0, x1, x2, x3, x4, _⟩ := hSw.2.1.five
            go_simp
            try (with_reducible rfl)
          try simp only [Act.put, List.setIfInBounds_toArray, List.set_cons_zero, List.set_cons_succ]
          refine wpAnyH_take (i := 10) (v := ?_) (by simp only [List.getElem?_toArray, List.getElem?_cons_succ, List.getElem?_cons_zero]; rfl) (by kernel_rfl) (by kernel_rfl) (by kernel_rfl) (by intro _ _ _ h; exact h) (Or.inl ⟨by rfl, ?_⟩) hHeld ?_
          rotate_left 1
          · intro wq hSw
            try dsimp only at hSw
            go_simp
            try (with_reducible rfl)
          try simp only [Act.put, List.setIfInBounds_toArray, List.set_cons_zero, List.set_cons_succ]
          refine wpAnyH_ready (rs := [11]) (by kernel_rfl) (by simp) ?_
          refine AllReadyH.cons (by simp only [List.getElem?_toArray, List.getElem?_cons_succ, List.getElem?_cons_zero]; rfl) (fun K hK => ?_) AllReadyH.nil
          have hC := refCrash3_any z.st z.rs z.la size 0 Ai z.l.length ci z.l wd (hS.below bbd) (by omega) hfi.1 hfi.2
          go_simp
          refine hC.mono ?_
          clear hC
          rintro e w5 ⟨A5, n5, c5, rfl, N5, b5⟩
          go_wp2_with fail
          refine hK.out _ _ (⟨bbd.trans (b5.mono bbd.size), Bdd.under b5, Bod.under b5⟩) (fun hHeld => ?_)
          clear hK K
          try dsimp only at hHeld
          try simp only [Act.put, List.setIfInBounds_toArray, List.set_cons_zero, List.set_cons_succ]
          refine wpAnyH_take (i := 12) (v := ?_) (by simp only [List.getElem?_toArray, List.getElem?_cons_succ, List.getElem?_cons_zero]; rfl) (by kernel_rfl) (by kernel_rfl) (by kernel_rfl) (by intro _ _ _ h; exact h) (Or.inl ⟨by rfl, ?_⟩) hHeld ?_
          rotate_left 1
          · intro wq hSw
            try dsimp only at hSw
            go_simp
            try (with_reducible rfl)
          try simp only [Act.put, List.setIfInBounds_toArray, List.set_cons_zero, List.set_cons_succ]
          refine wpAnyH_ready (rs := [13]) (by kernel_rfl) (by simp) ?_
          refine AllReadyH.cons (by simp only [List.getElem?_toArray, List.getElem?_cons_succ, List.getElem?_cons_zero]; rfl) (fun K hK => ?_) AllReadyH.nil
          obtain rfl : (crZ size 0 z).l.length = n5 := N5.sl.len8
          have Z3 := (Z2.under bd).under b5
          obtain ⟨⟨q0, q1, q2, q3, d0, d1, d2, d3⟩, f0, f1, f2, f3⟩ := Z3.cells hkL
          have hbz := bd.size
          have Z4 := Z3.set hkL (crZ size 0 z) N5.sl (fun _ ad e => by
            have h1 := N5.fr ad e
            exact ⟨⟨by omega, by omega⟩, by omega⟩)
          have hg1 : g ≠ w.heap.size := by omega
          have hg2 : g ≠ ko := hgF.2
          have hg3 : w.heap.size ≤ g := by omega
          have hg4 : g ≠ w.heap.size + 1 := by omega
          have Bd9 := Bdd.under b5
          have Bo9 := Bod.under b5
          have Br9 := (Br.under bd).under b5
          have b9 := bbd.trans (b5.mono bbd.size)
          go_simp
          refine hK.out _ _ (⟨(((b9.setCell hg3 _).setCell hg3 _).setCell hg3 _).setCell hg3 _, (((Bd9.far (Ne.symm hg1) _).far (Ne.symm hg1) _).far (Ne.symm hg1) _).far (Ne.symm hg1) _, (((Bo9.far (Ne.symm hg2) _).far (Ne.symm hg2) _).far (Ne.symm hg2) _).far (Ne.symm hg2) _⟩) (fun hHeld => ?_)
          clear hK K
          try dsimp only at hHeld
          try simp only [Act.put, List.setIfInBounds_toArray, List.set_cons_zero, List.set_cons_succ]
          refine wpAnyH_done (by kernel_rfl) ?_ _
          go_wp2
          go_roundg gg
          case measure => omega
          case rel =>
            refine ⟨k + 1, by have := hk.out; omega, by first | rfl | (simp; done), _, ⟨by rw [List.length_set]; exact hL.out.1, fun i hi => ?_⟩, Z4, hHeld.2.1, (((Br9.far (Ne.symm hg4) _).far (Ne.symm hg4) _).far (Ne.symm hg4) _).far (Ne.symm hg4) _, hHeld.2.2, hHeld.1⟩
            rw [List.getElem?_set]
            by_cases hki : k = i
            · subst hki
              rw [if_pos rfl, if_pos hkL, crZs, List.getElem?_mapIdx, hz.out, ← hkeep.out]
              rfl
            · rw [if_neg hki]
              exact hL.out.2 i (by omega)
      · obtain rfl : k = n := by omega
        have hLG : L = crZs size ks zs := by
          apply List.ext_getElem?
          intro i
          by_cases hi : i < k
          · exact hL.out.2 i hi
          · rw [List.getElem?_eq_none (by have := hL.out.1; omega), List.getElem?_eq_none (by rw [crZs, List.length_mapIdx]; omega)]
        rw [hLG] at Z2
        clear hLG hL hk
        have hlc : (crZs size ks zs).length = k := by rw [crZs, List.length_mapIdx]; exact hlen
        obtain ⟨x0, x1, x2, x3, x4, q0, q1, q2, q3, q4⟩ := Bo.five
        obtain ⟨r0, r1, r2, r3, r4, y0, y1, y2, y3, y4⟩ := Br.five
        have hne1 : ¬ ko = w.heap.size + 1 := by omega
        have hne2 : ¬ w.heap.size + 1 = ko := by omega
        replace hlc : Hid _ := hlc
        have hwr := Bo.lt
        go_wp2
        try simp only [Exit.inBlock, Exit.then]
        rw [e1.out, e2.out, e3.out]
        have hF : ¬ (w.heap.size + 2 ≤ w.heap.size + 1 ∧ w.heap.size + 1 ≠ ko) := by omega
        have hFo : ¬ (w.heap.size + 2 ≤ ko ∧ ko ≠ ko) := by omega
        have hwo : w.heap.size ≤ ko := by omega
        have Z3 := (Z2.far (a := ⟨ko, 3, none⟩) hFo (.bool false)).far (a := ⟨ko, 2, none⟩) hFo (.int .i64 (-1))
        have Z4 := ((((Z3.far (a := ⟨w.heap.size + 1, 0, none⟩) hF (.int .i64 size)).far (a := ⟨w.heap.size + 1, 1, none⟩) hF (.slice (some ⟨g, 0, none⟩) k c1)).far (a := ⟨w.heap.size + 1, 2, none⟩) hF (.int .i64 (-1))).far (a := ⟨w.heap.size + 1, 3, none⟩) hF (.bool false)).far (a := ⟨w.heap.size + 1, 4, none⟩) hF (.int .i64 dn)
        have Z5 := Z4.toZs (by rw [hlc.out]; omega)
        rw [hlc.out] at Z5
        have b9 := (((((((bb.setCell (p := ⟨ko, 3, none⟩) hwo (.bool false)).setCell (p := ⟨ko, 2, none⟩) hwo (.int .i64 (-1))).setCell (p := ⟨w.heap.size + 1, 0, none⟩) (by simp) (.int .i64 size)).setCell (p := ⟨w.heap.size + 1, 1, none⟩) (by simp) (.slice (some ⟨g, 0, none⟩) k c1)).setCell (p := ⟨w.heap.size + 1, 2, none⟩) (by simp) (.int .i64 (-1))).setCell (p := ⟨w.heap.size + 1, 3, none⟩) (by simp) (.bool false)).setCell (p := ⟨w.heap.size + 1, 4, none⟩) (by simp) (.int .i64 dn))
        have B9 := (((((Br.far (a := ⟨ko, 3, none⟩) hne2 (.bool false)).far (a := ⟨ko, 2, none⟩) hne2 (.int .i64 (-1))).set 0 (.int .i64 size)).set 1 (.slice (some ⟨g, 0, none⟩) k c1)).set 2 (.int .i64 (-1))).set 3 (.bool false) |>.set 4 (.int .i64 dn)
        exact ret_blk rfl rfl B9 Try.underlying25 (by kernel_rfl) ⟨some ⟨g, 0, none⟩, c1, rfl, ⟨Z5.len, hnc, hc1big, fun hn => by
          obtain ⟨g', o', q1, q2, q3, q4⟩ := Z5.cells hn
          exact ⟨g', o', q1, by omega, q3, fun i z hz => (q4 i z hz).imp (fun b _ hb => by omega)⟩⟩, b9⟩
end Go.Proofs.Ytnjekhnheihooaa
