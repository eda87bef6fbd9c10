/-
  DevMay: the walk (written by gen_devmay.py).
-/
import Derived.Test.YtnjekhnheihooaaDevAwake
import Derived.Test.YtnjekhnheihooaaDevPure2
import Derived.Test.YtnjekhnheihooaaRef4b
namespace Go.Proofs.Ytnjekhnheihooaa
open Go.RowKit Go.Wag
set_option linter.unusedVariables false

set_option maxRecDepth 100000 in
set_option maxHeartbeats 8000000 in
theorem DevMay_core {F : Nat → Prop} (size lf dn : Int) (dw : Bool) (A : Option Addr) (n c : Nat) (zs : List Zp) (a1 : Option Addr) (len cap : Nat) (Ak : Option Addr) (nk ck : Nat) (ks : List Int) (w : World) (z0 : Zs (fun b => b < w.heap.size) w A n c zs) (hS : IsSts [.num .i64, .num .i64, .row .u8] w a1 len cap) (s1 : Sl w Ak nk ck (ks.map iv)) (hfk : fits ks) (hlf : lf < 9223372036854775808) :
    Calls Try.prog 5 #[.agg #[.int .i64 size, .slice A n c, .int .i64 lf, .bool dw, .int .i64 dn], .slice a1 len cap, .slice Ak nk ck] w (AwakePost w) := by
  have s0k := s1
  have bb := Below.refl w.heap.size w
  go_enter Try.func5, Try.ntmps5
  replace z0 := z0.alloc (.cells #[.int .i64 size, .slice A n c, .int .i64 lf, .bool dw, .int .i64 dn] 25)
  replace s1 := s1.alloc (.cells #[.int .i64 size, .slice A n c, .int .i64 lf, .bool dw, .int .i64 dn] 25)
  replace bb := bb.alloc bb.size (.cells #[.int .i64 size, .slice A n c, .int .i64 lf, .bool dw, .int .i64 dn] 25)
  have Bd := Blk.new w #[.int .i64 size, .slice A n c, .int .i64 lf, .bool dw, .int .i64 dn] 25
  go_wp2_with fail
  generalize (w.alloc (.cells #[.int .i64 size, .slice A n c, .int .i64 lf, .bool dw, .int .i64 dn] 25)) = W1 at *
  have hC := awake4_any W1
  refine hC.mono ?_
  clear hC
  rintro e w1 ⟨rfl, ba⟩
  replace z0 := z0.below ba
  replace s1 := s1.below ba
  replace Bd := Bd.under ba
  replace bb := bb.trans (ba.mono bb.size)
  obtain ⟨Bdq0, Bdq1, Bdq2, Bdq3, Bdq4, Bdr0, Bdr1, Bdr2, Bdr3, Bdr4⟩ := Bd.five
  have Bdl := Bd.lt
  go_wp2_with fail
  clear Bdq0 Bdq1 Bdq2 Bdq3 Bdq4 Bdr0 Bdr1 Bdr2 Bdr3 Bdr4
  have hC := lSmall_any size lf dn dw A n c zs w1 z0
  refine hC.mono ?_
  clear hC
  rintro e w2 ⟨rfl, b2⟩
  replace z0 := z0.below b2
  replace s1 := s1.below b2
  replace Bd := Bd.under b2
  replace bb := bb.trans (b2.mono bb.size)
  cases hsm : smF zs
  · go_wp2
    go_ret
    exact ⟨rfl, bb⟩
  obtain ⟨hn70, hsm⟩ := smF_sm hsm
  have hlen : zs.length = n := z0.len
  obtain ⟨Bdq0, Bdq1, Bdq2, Bdq3, Bdq4, Bdr0, Bdr1, Bdr2, Bdr3, Bdr4⟩ := Bd.five
  have Bdl := Bd.lt
  go_wp2_with fail
  clear Bdq0 Bdq1 Bdq2 Bdq3 Bdq4 Bdr0 Bdr1 Bdr2 Bdr3 Bdr4
  have hC := dCheck_any size lf dn dw A n c zs w2 z0
  refine hC.mono ?_
  clear hC
  rintro e w3 ⟨rfl, b3⟩
  replace z0 := z0.below b3
  replace s1 := s1.below b3
  replace Bd := Bd.under b3
  replace bb := bb.trans (b3.mono bb.size)
  cases hc : devF size zs
  · go_wp2
    go_ret
    exact ⟨rfl, bb⟩
  by_cases h3 : 100 < (nk : Int)
  · go_wp2
    go_ret
    exact ⟨rfl, bb⟩
  have h3b : (nk : Int) ≤ 100 := by omega
  have hn70b : n ≤ 70 := by omega
  replace hc : Hid (devF size zs = true) := hc
  clear hsm hn70 hlen h3
  obtain ⟨o0, ho0⟩ : ∃ x : Int, Hid ((openF zs : Int) = x) := ⟨_, rfl⟩
  obtain ⟨Bdq0, Bdq1, Bdq2, Bdq3, Bdq4, Bdr0, Bdr1, Bdr2, Bdr3, Bdr4⟩ := Bd.five
  have Bdl := Bd.lt
  go_wp2_with fail
  clear Bdq0 Bdq1 Bdq2 Bdq3 Bdq4 Bdr0 Bdr1 Bdr2 Bdr3 Bdr4
  have hC := dOpen_at size lf dn dw A n c zs o0 w3 z0 ho0.out
  refine hC.mono ?_
  clear hC
  rintro e w4 ⟨rfl, b4⟩
  replace z0 := z0.below b4
  replace s1 := s1.below b4
  replace Bd := Bd.under b4
  replace bb := bb.trans (b4.mono bb.size)
  replace z0 := z0.imp (F' := fun b => b ≠ w.heap.size) (fun b hb hf e => by omega)
  have hop0 : Hid (decide (o0 ≤ 3) = decide (openF zs ≤ 3)) := by
    show _ = _
    rw [← ho0.out]
    exact decide_eq_decide.2 (by omega)
  go_wp2_with fail
  go_loopg [8, 9] len (fun g u i wr => ∃ k : Nat, k + g = len ∧ i = .int .i64 (k : Int) ∧ ∃ (A : Option Addr) (c : Nat) (zs : List Zp) (lf dn : Int) (dw op : Bool), u = .bool op ∧ Hid (devF size zs = true) ∧ Hid (op = decide (openF zs ≤ 3)) ∧ lf < 9223372036854775808 ∧ Blk wr w.heap.size #[.int .i64 size, .slice A n c, .int .i64 lf, .bool dw, .int .i64 dn] 25 ∧ Zs (fun b => b ≠ w.heap.size) wr A n c zs ∧ Below w.heap.size w wr)
  case atStart => exact ⟨0, by omega, rfl, A, c, zs, lf, dn, dw, _, rfl, hc, hop0, hlf, Bd, z0, bb⟩
  case round =>
    have sK := s1
    clear Bd z0 bb hc hop0 ho0 hlf
    obtain ⟨k, hk, rfl, A, c, zs, lf, dn, dw, op, rfl, hc, hop, hlf, Bd, zx, bb⟩ := hrel
    have hdl := Bd.lt
    have hsm : Sm zs := sm_dev hc.out
    skip
    by_cases hlt : (k : Int) < (len : Int)
    · by_cases h40 : (k : Int) < 40
      · skip
        obtain ⟨g, rfl⟩ : ∃ g, gk = g + 1 := ⟨gk - 1, by omega⟩
        obtain ⟨ab, ao, kd, N, Ab, nb, cb, bs, rfl, hlc, hab', c0', c1', c2', hbs0⟩ := cmd_at hS (show k < len by omega)
        have c0 := (bb.cell hab').trans c0'
        have c1 := (bb.cell hab').trans c1'
        have c2 := (bb.cell hab').trans c2'
        have hbs := hbs0.below bb
        have sk := s0k.below bb
        have hab : ab < wr.heap.size := Nat.lt_of_lt_of_le hab' bb.size
        by_cases hnb : 300 < (nb : Int)
        · go_wp2
          go_ret
          exact ⟨rfl, bb⟩
        have hnb2 : (nb : Int) ≤ 300 := by omega
        replace hk : Hid _ := hk
        obtain ⟨Bdq0, Bdq1, Bdq2, Bdq3, Bdq4, Bdr0, Bdr1, Bdr2, Bdr3, Bdr4⟩ := Bd.five
        have Bdl := Bd.lt
        go_wp2_with fail
        clear Bdq0 Bdq1 Bdq2 Bdq3 Bdq4 Bdr0 Bdr1 Bdr2 Bdr3 Bdr4
        have hC := refCopy4_any size lf dn dw A n c zs wr zx hsm
        refine hC.mono ?_
        clear hC
        rintro e v1 ⟨A2, c2x, rfl, zw, _, b5⟩
        replace Bd := Bd.under b5
        replace zx := zx.below b5
        replace hbs := hbs.below b5
        replace sk := sk.below b5
        replace bb := bb.trans (b5.mono bb.size)
        replace c0 := (b5.cell hab).trans c0
        replace c1 := (b5.cell hab).trans c1
        replace c2 := (b5.cell hab).trans c2
        replace hab := Nat.lt_of_lt_of_le hab b5.size
        have hdl1 : w.heap.size < v1.heap.size := Bd.lt
        replace zx := zx.imp (F' := fun b => b ≠ w.heap.size ∧ b < v1.heap.size) (fun b hb hf => ⟨hf, hb⟩)
        replace zw := zw.imp (F' := fun b => b < v1.heap.size) (fun b hb hf => hb)
        have bal : Below v1.heap.size v1 ((v1.alloc (.cells #[.int .i64 size, .slice A2 n c2x, .int .i64 lf, .bool dw, .int .i64 dn] 25)).alloc (.cells #[.int .i64 0, .slice none 0 0, .int .i64 0, .bool false, .int .i64 0] 25)) := ((Below.refl _ _).alloc (Nat.le_refl _) _).alloc (by simp) _
        have d0 := (bal.cell hab).trans c0
        have d1 := (bal.cell hab).trans c1
        have d2 := (bal.cell hab).trans c2
        have hab2 := Nat.lt_of_lt_of_le hab bal.size
        clear c0 c1 c2 bal
        by_cases h9 : kd = 9
        · subst h9
          obtain ⟨Bdq0, Bdq1, Bdq2, Bdq3, Bdq4, Bdr0, Bdr1, Bdr2, Bdr3, Bdr4⟩ := Bd.five
          have Bdl := Bd.lt
          replace Bd := Bd.alloc (.cells #[.int .i64 size, .slice A2 n c2x, .int .i64 lf, .bool dw, .int .i64 dn] 25)
          replace zx := zx.alloc (.cells #[.int .i64 size, .slice A2 n c2x, .int .i64 lf, .bool dw, .int .i64 dn] 25)
          replace hbs := hbs.alloc (.cells #[.int .i64 size, .slice A2 n c2x, .int .i64 lf, .bool dw, .int .i64 dn] 25)
          replace sk := sk.alloc (.cells #[.int .i64 size, .slice A2 n c2x, .int .i64 lf, .bool dw, .int .i64 dn] 25)
          replace zw := zw.alloc (.cells #[.int .i64 size, .slice A2 n c2x, .int .i64 lf, .bool dw, .int .i64 dn] 25)
          replace bb := bb.alloc bb.size (.cells #[.int .i64 size, .slice A2 n c2x, .int .i64 lf, .bool dw, .int .i64 dn] 25)
          have Bw := Blk.new v1 #[.int .i64 size, .slice A2 n c2x, .int .i64 lf, .bool dw, .int .i64 dn] 25
          replace Bd := Bd.alloc (.cells #[.int .i64 0, .slice none 0 0, .int .i64 0, .bool false, .int .i64 0] 25)
          replace zx := zx.alloc (.cells #[.int .i64 0, .slice none 0 0, .int .i64 0, .bool false, .int .i64 0] 25)
          replace hbs := hbs.alloc (.cells #[.int .i64 0, .slice none 0 0, .int .i64 0, .bool false, .int .i64 0] 25)
          replace sk := sk.alloc (.cells #[.int .i64 0, .slice none 0 0, .int .i64 0, .bool false, .int .i64 0] 25)
          replace zw := zw.alloc (.cells #[.int .i64 0, .slice none 0 0, .int .i64 0, .bool false, .int .i64 0] 25)
          replace Bw := Bw.alloc (.cells #[.int .i64 0, .slice none 0 0, .int .i64 0, .bool false, .int .i64 0] 25)
          replace bb := bb.alloc bb.size (.cells #[.int .i64 0, .slice none 0 0, .int .i64 0, .bool false, .int .i64 0] 25)
          have Bn := Blk.new (v1.alloc (.cells #[.int .i64 size, .slice A2 n c2x, .int .i64 lf, .bool dw, .int .i64 dn] 25)) #[.int .i64 0, .slice none 0 0, .int .i64 0, .bool false, .int .i64 0] 25
          simp only [World.size_alloc] at Bn
          go_wp2_with fail
          clear Bdq0 Bdq1 Bdq2 Bdq3 Bdq4 Bdr0 Bdr1 Bdr2 Bdr3 Bdr4
          generalize ((v1.alloc (.cells #[.int .i64 size, .slice A2 n c2x, .int .i64 lf, .bool dw, .int .i64 dn] 25)).alloc (.cells #[.int .i64 0, .slice none 0 0, .int .i64 0, .bool false, .int .i64 0] 25)) = v2 at *
          obtain ⟨kw, hkw⟩ : ∃ k, v1.heap.size = k := ⟨_, rfl⟩
          obtain ⟨kn, hkn⟩ : ∃ k, kw + 1 = k := ⟨_, rfl⟩
          simp only [hkw, hkn] at Bw Bn zx zw hdl1 ⊢
          clear hkw
          have c0 := d0
          have c1 := d1
          have c2 := d2
          have hab := hab2
          clear d0 d1 d2 hab2
          obtain ⟨Zz, hZz⟩ : ∃ x, Hid (cdZs size ks zs = x) := ⟨_, rfl⟩
          obtain ⟨Lf, hLf⟩ : ∃ x, Hid (cdLf size lf zs = x) := ⟨_, rfl⟩
          obtain ⟨Dw, hDw⟩ : ∃ x, Hid (cdDw size dw zs = x) := ⟨_, rfl⟩
          have hc9 : Hid (devF size Zz = true) := by
            show _ = true
            rw [← hZz.out]
            exact (cd_ok ks hc.out).1
          have hO9 : Hid ((openF Zz : Int) = 0) := by
            show _ = _
            rw [← hZz.out, (cd_ok ks hc.out).2]
            rfl
          have hO3 : Hid (openF zs ≤ 3 → openF Zz ≤ 3) := by
            intro _
            have := hO9.out
            omega
          have hKq : Hid (∀ (i : Nat) (z : Zp), zs[i]? = some z → ∃ z', Zz[i]? = some z' ∧ Kq z z') := by
            show ∀ (i : Nat) (z : Zp), _
            rw [← hZz.out]
            exact keep_cd ks hc.out
          have hlf9 : Lf < 9223372036854775808 := by
            rw [← hLf.out, cdLf]
            split <;> omega
          have Bn0lt := Bn.lt
          have Bd0lt := Bd.lt
          have hC := dCrash_at size lf dn dw A n c zs Ak nk ck ks Lf Dw Zz v2 zx hsm sk hfk hLf.out hDw.out hZz.out
          refine hC.mono ?_
          clear hC
          rintro e v3 ⟨A9, rfl, zn, b6⟩
          replace Bd := Bd.under b6
          replace zx := zx.below b6
          replace hbs := hbs.below b6
          replace sk := sk.below b6
          replace zw := zw.below b6
          replace Bw := Bw.under b6
          replace Bn := Bn.under b6
          replace bb := bb.trans (b6.mono bb.size)
          replace c0 := (b6.cell hab).trans c0
          replace hab := Nat.lt_of_lt_of_le hab b6.size
          replace zn := zn.imp (F' := fun b => b ≠ w.heap.size ∧ b ≠ kn) (fun b hb hf => ⟨by omega, by omega⟩)
          clear hbs sk c1 c2
          have hwn : w.heap.size ≤ kn := by omega
          have hBn := (((((Bn.set 0 (.int .i64 size)).set 1 (.slice A9 n n)).set 2 (.int .i64 Lf)).set 3 (.bool Dw)).set 4 (.int .i64 dn))
          simp only [List.setIfInBounds_toArray, List.set_cons_zero, List.set_cons_succ] at hBn
          have hBd := (((((Bd.far (a := ⟨kn, 0, none⟩) (by simp; omega) (.int .i64 size)).far (a := ⟨kn, 1, none⟩) (by simp; omega) (.slice A9 n n)).far (a := ⟨kn, 2, none⟩) (by simp; omega) (.int .i64 Lf)).far (a := ⟨kn, 3, none⟩) (by simp; omega) (.bool Dw)).far (a := ⟨kn, 4, none⟩) (by simp; omega) (.int .i64 dn))
          have hBw := (((((Bw.far (a := ⟨kn, 0, none⟩) (by simp; omega) (.int .i64 size)).far (a := ⟨kn, 1, none⟩) (by simp; omega) (.slice A9 n n)).far (a := ⟨kn, 2, none⟩) (by simp; omega) (.int .i64 Lf)).far (a := ⟨kn, 3, none⟩) (by simp; omega) (.bool Dw)).far (a := ⟨kn, 4, none⟩) (by simp; omega) (.int .i64 dn))
          have hzx := (((((zx.far (a := ⟨kn, 0, none⟩) (fun h => by have := h.2; simp at this; omega) (.int .i64 size)).far (a := ⟨kn, 1, none⟩) (fun h => by have := h.2; simp at this; omega) (.slice A9 n n)).far (a := ⟨kn, 2, none⟩) (fun h => by have := h.2; simp at this; omega) (.int .i64 Lf)).far (a := ⟨kn, 3, none⟩) (fun h => by have := h.2; simp at this; omega) (.bool Dw)).far (a := ⟨kn, 4, none⟩) (fun h => by have := h.2; simp at this; omega) (.int .i64 dn))
          have hzw := (((((zw.far (a := ⟨kn, 0, none⟩) (fun h => by simp at h; omega) (.int .i64 size)).far (a := ⟨kn, 1, none⟩) (fun h => by simp at h; omega) (.slice A9 n n)).far (a := ⟨kn, 2, none⟩) (fun h => by simp at h; omega) (.int .i64 Lf)).far (a := ⟨kn, 3, none⟩) (fun h => by simp at h; omega) (.bool Dw)).far (a := ⟨kn, 4, none⟩) (fun h => by simp at h; omega) (.int .i64 dn))
          have hzn := (((((zn.far (a := ⟨kn, 0, none⟩) (fun h => h.2 rfl) (.int .i64 size)).far (a := ⟨kn, 1, none⟩) (fun h => h.2 rfl) (.slice A9 n n)).far (a := ⟨kn, 2, none⟩) (fun h => h.2 rfl) (.int .i64 Lf)).far (a := ⟨kn, 3, none⟩) (fun h => h.2 rfl) (.bool Dw)).far (a := ⟨kn, 4, none⟩) (fun h => h.2 rfl) (.int .i64 dn))
          have hbb := (((((bb.setCell (p := ⟨kn, 0, none⟩) hwn (.int .i64 size)).setCell (p := ⟨kn, 1, none⟩) hwn (.slice A9 n n)).setCell (p := ⟨kn, 2, none⟩) hwn (.int .i64 Lf)).setCell (p := ⟨kn, 3, none⟩) hwn (.bool Dw)).setCell (p := ⟨kn, 4, none⟩) hwn (.int .i64 dn))
          have hc0 : (((((v3.setCell ⟨kn, 0, none⟩ (.int .i64 size)).setCell ⟨kn, 1, none⟩ (.slice A9 n n)).setCell ⟨kn, 2, none⟩ (.int .i64 Lf)).setCell ⟨kn, 3, none⟩ (.bool Dw)).setCell ⟨kn, 4, none⟩ (.int .i64 dn)).cell? ⟨ab, ao + k * 3, none⟩ = some (.int .i64 9) := by
            have hne : ∀ i : Nat, (⟨ab, ao + k * 3, none⟩ : Addr).block ≠ (⟨kn, i, none⟩ : Addr).block := fun i => by simp; omega
            rw [cell_far _ _ (hne 4), cell_far _ _ (hne 3), cell_far _ _ (hne 2), cell_far _ _ (hne 1), cell_far _ _ (hne 0)]
            exact c0
          have hha : ab < (((((v3.setCell ⟨kn, 0, none⟩ (.int .i64 size)).setCell ⟨kn, 1, none⟩ (.slice A9 n n)).setCell ⟨kn, 2, none⟩ (.int .i64 Lf)).setCell ⟨kn, 3, none⟩ (.bool Dw)).setCell ⟨kn, 4, none⟩ (.int .i64 dn)).heap.size := by simpa [World.setCell] using hab
          have hne1 : ¬ w.heap.size = kn := by omega
          have hne2 : ¬ kw = kn := by omega
          have hne3 : ¬ kn = w.heap.size := by omega
          have hne4 : ¬ kn = kw := by omega
          clear c0
          obtain ⟨Bdq0, Bdq1, Bdq2, Bdq3, Bdq4, Bdr0, Bdr1, Bdr2, Bdr3, Bdr4⟩ := Bd.five
          have Bdl := Bd.lt
          obtain ⟨Bwq0, Bwq1, Bwq2, Bwq3, Bwq4, Bwr0, Bwr1, Bwr2, Bwr3, Bwr4⟩ := Bw.five
          have Bwl := Bw.lt
          obtain ⟨Bnq0, Bnq1, Bnq2, Bnq3, Bnq4, Bnr0, Bnr1, Bnr2, Bnr3, Bnr4⟩ := Bn.five
          have Bnl := Bn.lt
          go_wp2_with fail
          clear Bdq0 Bdq1 Bdq2 Bdq3 Bdq4 Bdr0 Bdr1 Bdr2 Bdr3 Bdr4
          clear Bwq0 Bwq1 Bwq2 Bwq3 Bwq4 Bwr0 Bwr1 Bwr2 Bwr3 Bwr4
          clear Bnq0 Bnq1 Bnq2 Bnq3 Bnq4 Bnr0 Bnr1 Bnr2 Bnr3 Bnr4
          clear Bd Bw Bn zx zw zn bb hab
          generalize (((((v3.setCell ⟨kn, 0, none⟩ (.int .i64 size)).setCell ⟨kn, 1, none⟩ (.slice A9 n n)).setCell ⟨kn, 2, none⟩ (.int .i64 Lf)).setCell ⟨kn, 3, none⟩ (.bool Dw)).setCell ⟨kn, 4, none⟩ (.int .i64 dn)) = x1 at *
          have Bd := hBd
          have Bw := hBw
          have Bn := hBn
          have zx := hzx
          have zw := hzw
          have zn := hzn
          have bb := hbb
          have c0 := hc0
          have hab := hha
          clear hBd hBw hBn hzx hzw hzn hbb hc0 hha
          have hC := refSame4_eq size lf dn dw A n c A2 c2x zs x1 zx zw (by omega)
          refine hC.mono ?_
          clear hC
          rintro e u1 ⟨rfl, b6⟩
          replace Bd := Bd.under b6
          replace Bw := Bw.under b6
          replace Bn := Bn.under b6
          replace zx := zx.below b6
          replace zw := zw.below b6
          replace zn := zn.below b6
          replace bb := bb.trans (b6.mono bb.size)
          replace c0 := (b6.cell hab).trans c0
          replace hab := Nat.lt_of_lt_of_le hab b6.size
          clear zw Bw
          obtain ⟨Bnq0, Bnq1, Bnq2, Bnq3, Bnq4, Bnr0, Bnr1, Bnr2, Bnr3, Bnr4⟩ := Bn.five
          have Bnl := Bn.lt
          go_wp2_with fail
          clear Bnq0 Bnq1 Bnq2 Bnq3 Bnq4 Bnr0 Bnr1 Bnr2 Bnr3 Bnr4
          have hC := dCheck_at size Lf dn Dw A9 n n Zz true u1 zn hc9.out
          refine hC.mono ?_
          clear hC
          rintro e u2 ⟨rfl, b7⟩
          replace Bd := Bd.under b7
          replace Bn := Bn.under b7
          replace zx := zx.below b7
          replace zn := zn.below b7
          replace bb := bb.trans (b7.mono bb.size)
          replace c0 := (b7.cell hab).trans c0
          replace hab := Nat.lt_of_lt_of_le hab b7.size
          obtain ⟨Bnq0, Bnq1, Bnq2, Bnq3, Bnq4, Bnr0, Bnr1, Bnr2, Bnr3, Bnr4⟩ := Bn.five
          have Bnl := Bn.lt
          obtain ⟨Bdq0, Bdq1, Bdq2, Bdq3, Bdq4, Bdr0, Bdr1, Bdr2, Bdr3, Bdr4⟩ := Bd.five
          have Bdl := Bd.lt
          go_wp2_with fail
          clear Bnq0 Bnq1 Bnq2 Bnq3 Bnq4 Bnr0 Bnr1 Bnr2 Bnr3 Bnr4
          clear Bdq0 Bdq1 Bdq2 Bdq3 Bdq4 Bdr0 Bdr1 Bdr2 Bdr3 Bdr4
          have hC := dOpen_at size Lf dn Dw A9 n n Zz 0 u2 zn hO9.out
          refine hC.mono ?_
          clear hC
          rintro e u3 ⟨rfl, b8⟩
          replace Bd := Bd.under b8
          replace Bn := Bn.under b8
          replace zx := zx.below b8
          replace zn := zn.below b8
          replace bb := bb.trans (b8.mono bb.size)
          replace c0 := (b8.cell hab).trans c0
          replace hab := Nat.lt_of_lt_of_le hab b8.size
          obtain ⟨Bdq0, Bdq1, Bdq2, Bdq3, Bdq4, Bdr0, Bdr1, Bdr2, Bdr3, Bdr4⟩ := Bd.five
          have Bdl := Bd.lt
          go_wp2_with fail
          clear Bdq0 Bdq1 Bdq2 Bdq3 Bdq4 Bdr0 Bdr1 Bdr2 Bdr3 Bdr4
          go_loopg [15] n (fun g i wr => ∃ j : Nat, j + g = n ∧ i = .int .i64 (j : Int) ∧ Below u3.heap.size u3 wr)
          case atStart => exact ⟨0, by omega, rfl, Below.refl _ _⟩
          case round =>
            obtain ⟨j, hj, rfl, br⟩ := hrel
            replace Bd := Bd.under br
            replace Bn := Bn.under br
            replace zx := zx.below br
            replace zn := zn.below br
            replace bb := bb.trans (br.mono bb.size)
            replace c0 := (br.cell hab).trans c0
            replace hab := Nat.lt_of_lt_of_le hab br.size
            obtain ⟨Bdq0, Bdq1, Bdq2, Bdq3, Bdq4, Bdr0, Bdr1, Bdr2, Bdr3, Bdr4⟩ := Bd.five
            have Bdl := Bd.lt
            by_cases hltj : (j : Int) < (n : Int)
            · skip
              obtain ⟨g', rfl⟩ : ∃ g', gk = g' + 1 := ⟨gk - 1, by omega⟩
              obtain ⟨gb, o, z, Ai, ci, rfl, _, hg, hz, e0, e1, e2, e3, hSz, _⟩ := zx.at_ (show j < n by omega)
              obtain ⟨gx, ox, zy, Ay, cy, rfl, _, hgx, hzy, f0, f1, f2, f3, hSy, _⟩ := zn.at_ (show j < n by omega)
              have hcp := zx.cap
              have hcq := zn.cap
              replace hj : Hid _ := hj
              have hchk := chk_all ((dev_parts.1 hc.out).2 z (List.mem_of_getElem? hz))
              obtain ⟨m, hm⟩ : ∃ m : Nat, z.la = (m : Int) := ⟨z.la.toNat, by omega⟩
              have hml : m ≤ z.l.length := by omega
              clear hchk
              rw [hm] at e3
              have hkq : m ≤ zy.l.length ∧ zy.l.take m = z.l.take m := by
                obtain ⟨z', h1, h2⟩ := hKq.out j z hz
                rw [hzy] at h1
                cases h1
                unfold Kq at h2
                rw [hm, Int.toNat_natCast] at h2
                exact ⟨by omega, h2.2⟩
              obtain ⟨hmy, htk⟩ := hkq
              have hmy2 : ¬ (zy.l.length : Int) < (m : Int) := by omega
              have hmc : m ≤ ci := by have := hSz.cap; omega
              have hmc2 : m ≤ cy := by have := hSy.cap; omega
              have HY := hSy.upto hmy
              have HZ := hSz.upto hml
              rw [← List.map_take] at HY HZ
              rw [htk] at HY
              have qy := fun W (h : Below wr.heap.size wr W) => str_of (HY.below h)
              have qz := fun W (h : Below wr.heap.size wr W) => str_of (HZ.below h)
              clear htk
              clear hz hzy hm
              go_wp2_with fail
              clear Bdq0 Bdq1 Bdq2 Bdq3 Bdq4 Bdr0 Bdr1 Bdr2 Bdr3 Bdr4
              refine wp_region_held_drew (S := fun w' => Below wr.heap.size wr w') (by kernel_rfl) (Below.refl _ _).drew (fun hHeld => ?_)
              try dsimp only at hHeld
              have bd : Below wr.heap.size wr wr.drew := (Below.refl wr.heap.size wr).drew
              generalize wr.drew = wd at *
              try simp only [Act.put, List.setIfInBounds_toArray, List.set_cons_zero, List.set_cons_succ]
              refine wpAnyH_take (i := 0) (v := ?_) (by simp only [List.getElem?_toArray, List.getElem?_cons_zero]; rfl) (by kernel_rfl) (by kernel_rfl) (by kernel_rfl) (by intro _ _ _ h; exact h) (Or.inl ⟨by rfl, ?_⟩) hHeld ?_
              rotate_left 1
              · intro wq hSw
                try dsimp only at hSw
                go_simp
                try (with_reducible rfl)
              try simp only [Act.put, List.setIfInBounds_toArray, List.set_cons_zero, List.set_cons_succ]
              refine wpAnyH_take (i := 1) (v := ?_) (by simp only [List.getElem?_toArray, List.getElem?_cons_succ, List.getElem?_cons_zero]; rfl) (by kernel_rfl) (by kernel_rfl) (by kernel_rfl) (by intro _ _ _ h; exact h) (Or.inl ⟨by rfl, ?_⟩) hHeld ?_
              rotate_left 1
              · intro wq hSw
                try dsimp only at hSw
                go_simp
                try (with_reducible rfl)
              try simp only [Act.put, List.setIfInBounds_toArray, List.set_cons_zero, List.set_cons_succ]
              refine wpAnyH_take (i := 2) (v := ?_) (by simp only [List.getElem?_toArray, List.getElem?_cons_succ, List.getElem?_cons_zero]; rfl) (by kernel_rfl) (by kernel_rfl) (by kernel_rfl) (by intro _ _ _ h; exact h) (Or.inl ⟨by rfl, ?_⟩) hHeld ?_
              rotate_left 1
              · intro wq hSw
                try dsimp only at hSw
                go_simp
                try (with_reducible rfl)
              try simp only [Act.put, List.setIfInBounds_toArray, List.set_cons_zero, List.set_cons_succ]
              refine wpAnyH_take (i := 3) (v := ?_) (by simp only [List.getElem?_toArray, List.getElem?_cons_succ, List.getElem?_cons_zero]; rfl) (by kernel_rfl) (by kernel_rfl) (by kernel_rfl) (by intro _ _ _ h; exact h) (Or.inl ⟨by rfl, ?_⟩) hHeld ?_
              rotate_left 1
              · intro wq hSw
                try dsimp only at hSw
                go_simp
                try (with_reducible rfl)
              try simp only [Act.put, List.setIfInBounds_toArray, List.set_cons_zero, List.set_cons_succ]
              refine wpAnyH_take (i := 4) (v := ?_) (by simp only [List.getElem?_toArray, List.getElem?_cons_succ, List.getElem?_cons_zero]; rfl) (by kernel_rfl) (by kernel_rfl) (by kernel_rfl) (by intro _ _ _ h; exact h) (Or.inl ⟨by rfl, ?_⟩) hHeld ?_
              rotate_left 1
              · intro wq hSw
                try dsimp only at hSw
                have x0 := (hSw.cell hab).trans c0
                go_simp
                try (with_reducible rfl)
              try simp only [Act.put, List.setIfInBounds_toArray, List.set_cons_zero, List.set_cons_succ]
              refine wpAnyH_take (i := 5) (v := ?_) (by simp only [List.getElem?_toArray, List.getElem?_cons_succ, List.getElem?_cons_zero]; rfl) (by kernel_rfl) (by kernel_rfl) (by kernel_rfl) (by intro _ _ _ h; exact h) (Or.inl ⟨by rfl, ?_⟩) hHeld ?_
              rotate_left 1
              · intro wq hSw
                try dsimp only at hSw
                go_simp
                try (with_reducible rfl)
              try simp only [Act.put, List.setIfInBounds_toArray, List.set_cons_zero, List.set_cons_succ]
              refine wpAnyH_take (i := 6) (v := ?_) (by simp only [List.getElem?_toArray, List.getElem?_cons_succ, List.getElem?_cons_zero]; rfl) (by kernel_rfl) (by kernel_rfl) (by kernel_rfl) (by intro _ _ _ h; exact h) (Or.inl ⟨by rfl, ?_⟩) hHeld ?_
              rotate_left 1
              · intro wq hSw
                try dsimp only at hSw
                go_simp
                try (with_reducible rfl)
              try simp only [Act.put, List.setIfInBounds_toArray, List.set_cons_zero, List.set_cons_succ]
              refine wpAnyH_take (i := 7) (v := ?_) (by simp only [List.getElem?_toArray, List.getElem?_cons_succ, List.getElem?_cons_zero]; rfl) (by kernel_rfl) (by kernel_rfl) (by kernel_rfl) (by intro _ _ _ h; exact h) (Or.inl ⟨by rfl, ?_⟩) hHeld ?_
              rotate_left 1
              · intro wq hSw
                try dsimp only at hSw
                go_simp
                try (with_reducible rfl)
              try simp only [Act.put, List.setIfInBounds_toArray, List.set_cons_zero, List.set_cons_succ]
              refine wpAnyH_take (i := 8) (v := ?_) (by simp only [List.getElem?_toArray, List.getElem?_cons_succ, List.getElem?_cons_zero]; rfl) (by kernel_rfl) (by kernel_rfl) (by kernel_rfl) (by intro _ _ _ h; exact h) (Or.inl ⟨by rfl, ?_⟩) hHeld ?_
              rotate_left 1
              · intro wq hSw
                try dsimp only at hSw
                obtain ⟨x0, x1, x2, x3, x4, _⟩ := (Bn.under hSw).five
                go_simp
                try (with_reducible rfl)
              try simp only [Act.put, List.setIfInBounds_toArray, List.set_cons_zero, List.set_cons_succ]
              refine wpAnyH_take (i := 9) (v := ?_) (by simp only [List.getElem?_toArray, List.getElem?_cons_succ, List.getElem?_cons_zero]; rfl) (by kernel_rfl) (by kernel_rfl) (by kernel_rfl) (by intro _ _ _ h; exact h) (Or.inl ⟨by rfl, ?_⟩) hHeld ?_
              rotate_left 1
              · intro wq hSw
                try dsimp only at hSw
                go_simp
                try (with_reducible rfl)
              try simp only [Act.put, List.setIfInBounds_toArray, List.set_cons_zero, List.set_cons_succ]
              refine wpAnyH_take (i := 10) (v := ?_) (by simp only [List.getElem?_toArray, List.getElem?_cons_succ, List.getElem?_cons_zero]; rfl) (by kernel_rfl) (by kernel_rfl) (by kernel_rfl) (by intro _ _ _ h; exact h) (Or.inl ⟨by rfl, ?_⟩) hHeld ?_
              rotate_left 1
              · intro wq hSw
                try dsimp only at hSw
                go_simp
                try (with_reducible rfl)
              try simp only [Act.put, List.setIfInBounds_toArray, List.set_cons_zero, List.set_cons_succ]
              refine wpAnyH_take (i := 11) (v := ?_) (by simp only [List.getElem?_toArray, List.getElem?_cons_succ, List.getElem?_cons_zero]; rfl) (by kernel_rfl) (by kernel_rfl) (by kernel_rfl) (by intro _ _ _ h; exact h) (Or.inl ⟨by rfl, ?_⟩) hHeld ?_
              rotate_left 1
              · intro wq hSw
                try dsimp only at hSw
                go_simp
                try (with_reducible rfl)
              try simp only [Act.put, List.setIfInBounds_toArray, List.set_cons_zero, List.set_cons_succ]
              refine wpAnyH_take (i := 12) (v := ?_) (by simp only [List.getElem?_toArray, List.getElem?_cons_succ, List.getElem?_cons_zero]; rfl) (by kernel_rfl) (by kernel_rfl) (by kernel_rfl) (by intro _ _ _ h; exact h) (Or.inl ⟨by rfl, ?_⟩) hHeld ?_
              rotate_left 1
              · intro wq hSw
                try dsimp only at hSw
                have x0 := (hSw.cell hgx).trans f2
                go_simp
                try (with_reducible rfl)
              try simp only [Act.put, List.setIfInBounds_toArray, List.set_cons_zero, List.set_cons_succ]
              refine wpAnyH_take (i := 13) (v := ?_) (by simp only [List.getElem?_toArray, List.getElem?_cons_succ, List.getElem?_cons_zero]; rfl) (by kernel_rfl) (by kernel_rfl) (by kernel_rfl) (by intro _ _ _ h; exact h) (Or.inl ⟨by rfl, ?_⟩) hHeld ?_
              rotate_left 1
              · intro wq hSw
                try dsimp only at hSw
                go_simp
                try (with_reducible rfl)
              try simp only [Act.put, List.setIfInBounds_toArray, List.set_cons_zero, List.set_cons_succ]
              refine wpAnyH_take (i := 14) (v := ?_) (by simp only [List.getElem?_toArray, List.getElem?_cons_succ, List.getElem?_cons_zero]; rfl) (by kernel_rfl) (by kernel_rfl) (by kernel_rfl) (by intro _ _ _ h; exact h) (Or.inl ⟨by rfl, ?_⟩) hHeld ?_
              rotate_left 1
              · intro wq hSw
                try dsimp only at hSw
                go_simp
                try (with_reducible rfl)
              try simp only [Act.put, List.setIfInBounds_toArray, List.set_cons_zero, List.set_cons_succ]
              refine wpAnyH_take (i := 15) (v := .bool false) (by simp only [List.getElem?_toArray, List.getElem?_cons_succ, List.getElem?_cons_zero]; rfl) (by kernel_rfl) (by kernel_rfl) (by kernel_rfl) (by intro _ _ _ h; exact h) (Or.inl ⟨by rfl, ?_⟩) hHeld ?_
              · intro wq hSw
                try dsimp only at hSw
                go_simp
                all_goals first
                  | (with_reducible rfl)
                  | (simp; done)
                  | (simp; omega)
              try simp only [Act.put, List.setIfInBounds_toArray, List.set_cons_zero, List.set_cons_succ]
              refine wpAnyH_take (i := 16) (v := ?_) (by simp only [List.getElem?_toArray, List.getElem?_cons_succ, List.getElem?_cons_zero]; rfl) (by kernel_rfl) (by kernel_rfl) (by kernel_rfl) (by intro _ _ _ h; exact h) (Or.inl ⟨by rfl, ?_⟩) hHeld ?_
              rotate_left 1
              · intro wq hSw
                try dsimp only at hSw
                go_simp
                try (with_reducible rfl)
              try simp only [Act.put, List.setIfInBounds_toArray, List.set_cons_zero, List.set_cons_succ]
              refine wpAnyH_take (i := 17) (v := ?_) (by simp only [List.getElem?_toArray, List.getElem?_cons_succ, List.getElem?_cons_zero]; rfl) (by kernel_rfl) (by kernel_rfl) (by kernel_rfl) (by intro _ _ _ h; exact h) (Or.inl ⟨by rfl, ?_⟩) hHeld ?_
              rotate_left 1
              · intro wq hSw
                try dsimp only at hSw
                go_simp
                try (with_reducible rfl)
              try simp only [Act.put, List.setIfInBounds_toArray, List.set_cons_zero, List.set_cons_succ]
              refine wpAnyH_take (i := 18) (v := ?_) (by simp only [List.getElem?_toArray, List.getElem?_cons_succ, List.getElem?_cons_zero]; rfl) (by kernel_rfl) (by kernel_rfl) (by kernel_rfl) (by intro _ _ _ h; exact h) (Or.inl ⟨by rfl, ?_⟩) hHeld ?_
              rotate_left 1
              · intro wq hSw
                try dsimp only at hSw
                obtain ⟨x0, x1, x2, x3, x4, _⟩ := (Bn.under hSw).five
                go_simp
                try (with_reducible rfl)
              try simp only [Act.put, List.setIfInBounds_toArray, List.set_cons_zero, List.set_cons_succ]
              refine wpAnyH_take (i := 19) (v := ?_) (by simp only [List.getElem?_toArray, List.getElem?_cons_succ, List.getElem?_cons_zero]; rfl) (by kernel_rfl) (by kernel_rfl) (by kernel_rfl) (by intro _ _ _ h; exact h) (Or.inl ⟨by rfl, ?_⟩) hHeld ?_
              rotate_left 1
              · intro wq hSw
                try dsimp only at hSw
                go_simp
                try (with_reducible rfl)
              try simp only [Act.put, List.setIfInBounds_toArray, List.set_cons_zero, List.set_cons_succ]
              refine wpAnyH_take (i := 20) (v := ?_) (by simp only [List.getElem?_toArray, List.getElem?_cons_succ, List.getElem?_cons_zero]; rfl) (by kernel_rfl) (by kernel_rfl) (by kernel_rfl) (by intro _ _ _ h; exact h) (Or.inl ⟨by rfl, ?_⟩) hHeld ?_
              rotate_left 1
              · intro wq hSw
                try dsimp only at hSw
                go_simp
                try (with_reducible rfl)
              try simp only [Act.put, List.setIfInBounds_toArray, List.set_cons_zero, List.set_cons_succ]
              refine wpAnyH_take (i := 21) (v := ?_) (by simp only [List.getElem?_toArray, List.getElem?_cons_succ, List.getElem?_cons_zero]; rfl) (by kernel_rfl) (by kernel_rfl) (by kernel_rfl) (by intro _ _ _ h; exact h) (Or.inl ⟨by rfl, ?_⟩) hHeld ?_
              rotate_left 1
              · intro wq hSw
                try dsimp only at hSw
                go_simp
                try (with_reducible rfl)
              try simp only [Act.put, List.setIfInBounds_toArray, List.set_cons_zero, List.set_cons_succ]
              refine wpAnyH_take (i := 22) (v := ?_) (by simp only [List.getElem?_toArray, List.getElem?_cons_succ, List.getElem?_cons_zero]; rfl) (by kernel_rfl) (by kernel_rfl) (by kernel_rfl) (by intro _ _ _ h; exact h) (Or.inl ⟨by rfl, ?_⟩) hHeld ?_
              rotate_left 1
              · intro wq hSw
                try dsimp only at hSw
                have x0 := (hSw.cell hgx).trans f2
                go_simp
                try (with_reducible rfl)
              try simp only [Act.put, List.setIfInBounds_toArray, List.set_cons_zero, List.set_cons_succ]
              refine wpAnyH_take (i := 23) (v := ?_) (by simp only [List.getElem?_toArray, List.getElem?_cons_succ, List.getElem?_cons_zero]; rfl) (by kernel_rfl) (by kernel_rfl) (by kernel_rfl) (by intro _ _ _ h; exact h) (Or.inl ⟨by rfl, ?_⟩) hHeld ?_
              rotate_left 1
              · intro wq hSw
                try dsimp only at hSw
                go_simp
                try (with_reducible rfl)
              try simp only [Act.put, List.setIfInBounds_toArray, List.set_cons_zero, List.set_cons_succ]
              refine wpAnyH_take (i := 24) (v := ?_) (by simp only [List.getElem?_toArray, List.getElem?_cons_succ, List.getElem?_cons_zero]; rfl) (by kernel_rfl) (by kernel_rfl) (by kernel_rfl) (by intro _ _ _ h; exact h) (Or.inl ⟨by rfl, ?_⟩) hHeld ?_
              rotate_left 1
              · intro wq hSw
                try dsimp only at hSw
                go_simp
                try (with_reducible rfl)
              try simp only [Act.put, List.setIfInBounds_toArray, List.set_cons_zero, List.set_cons_succ]
              refine wpAnyH_take (i := 25) (v := ?_) (by simp only [List.getElem?_toArray, List.getElem?_cons_succ, List.getElem?_cons_zero]; rfl) (by kernel_rfl) (by kernel_rfl) (by kernel_rfl) (by intro _ _ _ h; exact h) (Or.inl ⟨by rfl, ?_⟩) hHeld ?_
              rotate_left 1
              · intro wq hSw
                try dsimp only at hSw
                have q := qy wq hSw
                go_simp
                try (with_reducible rfl)
              try simp only [Act.put, List.setIfInBounds_toArray, List.set_cons_zero, List.set_cons_succ]
              refine wpAnyH_take (i := 26) (v := ?_) (by simp only [List.getElem?_toArray, List.getElem?_cons_succ, List.getElem?_cons_zero]; rfl) (by kernel_rfl) (by kernel_rfl) (by kernel_rfl) (by intro _ _ _ h; exact h) (Or.inl ⟨by rfl, ?_⟩) hHeld ?_
              rotate_left 1
              · intro wq hSw
                try dsimp only at hSw
                go_simp
                try (with_reducible rfl)
              try simp only [Act.put, List.setIfInBounds_toArray, List.set_cons_zero, List.set_cons_succ]
              refine wpAnyH_take (i := 27) (v := ?_) (by simp only [List.getElem?_toArray, List.getElem?_cons_succ, List.getElem?_cons_zero]; rfl) (by kernel_rfl) (by kernel_rfl) (by kernel_rfl) (by intro _ _ _ h; exact h) (Or.inl ⟨by rfl, ?_⟩) hHeld ?_
              rotate_left 1
              · intro wq hSw
                try dsimp only at hSw
                obtain ⟨x0, x1, x2, x3, x4, _⟩ := (Bd.under hSw).five
                go_simp
                try (with_reducible rfl)
              try simp only [Act.put, List.setIfInBounds_toArray, List.set_cons_zero, List.set_cons_succ]
              refine wpAnyH_take (i := 28) (v := ?_) (by simp only [List.getElem?_toArray, List.getElem?_cons_succ, List.getElem?_cons_zero]; rfl) (by kernel_rfl) (by kernel_rfl) (by kernel_rfl) (by intro _ _ _ h; exact h) (Or.inl ⟨by rfl, ?_⟩) hHeld ?_
              rotate_left 1
              · intro wq hSw
                try dsimp only at hSw
                go_simp
                try (with_reducible rfl)
              try simp only [Act.put, List.setIfInBounds_toArray, List.set_cons_zero, List.set_cons_succ]
              refine wpAnyH_take (i := 29) (v := ?_) (by simp only [List.getElem?_toArray, List.getElem?_cons_succ, List.getElem?_cons_zero]; rfl) (by kernel_rfl) (by kernel_rfl) (by kernel_rfl) (by intro _ _ _ h; exact h) (Or.inl ⟨by rfl, ?_⟩) hHeld ?_
              rotate_left 1
              · intro wq hSw
                try dsimp only at hSw
                go_simp
                try (with_reducible rfl)
              try simp only [Act.put, List.setIfInBounds_toArray, List.set_cons_zero, List.set_cons_succ]
              refine wpAnyH_take (i := 30) (v := ?_) (by simp only [List.getElem?_toArray, List.getElem?_cons_succ, List.getElem?_cons_zero]; rfl) (by kernel_rfl) (by kernel_rfl) (by kernel_rfl) (by intro _ _ _ h; exact h) (Or.inl ⟨by rfl, ?_⟩) hHeld ?_
              rotate_left 1
              · intro wq hSw
                try dsimp only at hSw
                go_simp
                try (with_reducible rfl)
              try simp only [Act.put, List.setIfInBounds_toArray, List.set_cons_zero, List.set_cons_succ]
              refine wpAnyH_take (i := 31) (v := ?_) (by simp only [List.getElem?_toArray, List.getElem?_cons_succ, List.getElem?_cons_zero]; rfl) (by kernel_rfl) (by kernel_rfl) (by kernel_rfl) (by intro _ _ _ h; exact h) (Or.inl ⟨by rfl, ?_⟩) hHeld ?_
              rotate_left 1
              · intro wq hSw
                try dsimp only at hSw
                have x0 := (hSw.cell hg).trans e2
                go_simp
                try (with_reducible rfl)
              try simp only [Act.put, List.setIfInBounds_toArray, List.set_cons_zero, List.set_cons_succ]
              refine wpAnyH_take (i := 32) (v := ?_) (by simp only [List.getElem?_toArray, List.getElem?_cons_succ, List.getElem?_cons_zero]; rfl) (by kernel_rfl) (by kernel_rfl) (by kernel_rfl) (by intro _ _ _ h; exact h) (Or.inl ⟨by rfl, ?_⟩) hHeld ?_
              rotate_left 1
              · intro wq hSw
                try dsimp only at hSw
                go_simp
                try (with_reducible rfl)
              try simp only [Act.put, List.setIfInBounds_toArray, List.set_cons_zero, List.set_cons_succ]
              refine wpAnyH_take (i := 33) (v := ?_) (by simp only [List.getElem?_toArray, List.getElem?_cons_succ, List.getElem?_cons_zero]; rfl) (by kernel_rfl) (by kernel_rfl) (by kernel_rfl) (by intro _ _ _ h; exact h) (Or.inl ⟨by rfl, ?_⟩) hHeld ?_
              rotate_left 1
              · intro wq hSw
                try dsimp only at hSw
                go_simp
                try (with_reducible rfl)
              try simp only [Act.put, List.setIfInBounds_toArray, List.set_cons_zero, List.set_cons_succ]
              refine wpAnyH_take (i := 34) (v := ?_) (by simp only [List.getElem?_toArray, List.getElem?_cons_succ, List.getElem?_cons_zero]; rfl) (by kernel_rfl) (by kernel_rfl) (by kernel_rfl) (by intro _ _ _ h; exact h) (Or.inl ⟨by rfl, ?_⟩) hHeld ?_
              rotate_left 1
              · intro wq hSw
                try dsimp only at hSw
                have q := qz wq hSw
                go_simp
                try (with_reducible rfl)
              try simp only [Act.put, List.setIfInBounds_toArray, List.set_cons_zero, List.set_cons_succ]
              refine wpAnyH_take (i := 35) (v := ?_) (by simp only [List.getElem?_toArray, List.getElem?_cons_succ, List.getElem?_cons_zero]; rfl) (by kernel_rfl) (by kernel_rfl) (by kernel_rfl) (by intro _ _ _ h; exact h) (Or.inl ⟨by rfl, ?_⟩) hHeld ?_
              rotate_left 1
              · intro wq hSw
                try dsimp only at hSw
                go_simp
                try (with_reducible rfl)
              try simp only [Act.put, List.setIfInBounds_toArray, List.set_cons_zero, List.set_cons_succ]
              refine wpAnyH_take (i := 36) (v := ?_) (by simp only [List.getElem?_toArray, List.getElem?_cons_succ, List.getElem?_cons_zero]; rfl) (by kernel_rfl) (by kernel_rfl) (by kernel_rfl) (by intro _ _ _ h; exact h) (Or.inl ⟨by rfl, ?_⟩) hHeld ?_
              rotate_left 1
              · intro wq hSw
                try dsimp only at hSw
                go_simp
                try (with_reducible rfl)
              try simp only [Act.put, List.setIfInBounds_toArray, List.set_cons_zero, List.set_cons_succ]
              refine wpAnyH_take (i := 37) (v := ?_) (by simp only [List.getElem?_toArray, List.getElem?_cons_succ, List.getElem?_cons_zero]; rfl) (by kernel_rfl) (by kernel_rfl) (by kernel_rfl) (by intro _ _ _ h; exact h) (Or.inl ⟨by rfl, ?_⟩) hHeld ?_
              rotate_left 1
              · intro wq hSw
                try dsimp only at hSw
                go_simp
                try (with_reducible rfl)
              try simp only [Act.put, List.setIfInBounds_toArray, List.set_cons_zero, List.set_cons_succ]
              refine wpAnyH_done (by kernel_rfl) ?_ _
              go_wp2
              go_roundg g'
              case measure => omega
              case rel => exact ⟨j + 1, by have := hj.out; omega, by first | rfl | (simp; done) | (simp; exact wrap64_small (by omega) (by omega)), br.trans (bd.mono br.size)⟩
            · skip
              clear hj
              obtain ⟨o9, ho9⟩ : ∃ x : Int, Hid ((openF Zz : Int) = x) := ⟨_, rfl⟩
              have hop9 : Hid (decide (o9 ≤ 3) = decide (openF Zz ≤ 3)) := by
                show _ = _
                rw [← ho9.out]
                exact decide_eq_decide.2 (by omega)
              cases op
              · skip
                obtain ⟨Bnq0, Bnq1, Bnq2, Bnq3, Bnq4, Bnr0, Bnr1, Bnr2, Bnr3, Bnr4⟩ := Bn.five
                have Bnl := Bn.lt
                go_wp2_with fail
                clear Bnq0 Bnq1 Bnq2 Bnq3 Bnq4 Bnr0 Bnr1 Bnr2 Bnr3 Bnr4
                clear Bdq0 Bdq1 Bdq2 Bdq3 Bdq4 Bdr0 Bdr1 Bdr2 Bdr3 Bdr4
                have hC := dOpen_at size Lf dn Dw A9 n n Zz o9 wr zn ho9.out
                refine hC.mono ?_
                clear hC
                rintro e w9 ⟨rfl, b9⟩
                replace Bd := Bd.under b9
                replace Bn := Bn.under b9
                replace zx := zx.below b9
                replace zn := zn.below b9
                replace bb := bb.trans (b9.mono bb.size)
                obtain ⟨Bnq0, Bnq1, Bnq2, Bnq3, Bnq4, Bnr0, Bnr1, Bnr2, Bnr3, Bnr4⟩ := Bn.five
                have Bnl := Bn.lt
                obtain ⟨Bdq0, Bdq1, Bdq2, Bdq3, Bdq4, Bdr0, Bdr1, Bdr2, Bdr3, Bdr4⟩ := Bd.five
                have Bdl := Bd.lt
                go_wp2
                go_roundg g
                case measure => omega
                case rel =>
                  refine ⟨k + 1, by have := hk.out; omega, by first | rfl | (simp; done), A9, n, Zz, Lf, dn, Dw, _, rfl, hc9, by first | exact hop9 | exact hop9t, hlf9, ((((Bd.set 0 _).set 1 _).set 2 _).set 3 _).set 4 _, ?_, ((((bb.setCell (Nat.le_refl _) _).setCell (Nat.le_refl _) _).setCell (Nat.le_refl _) _).setCell (Nat.le_refl _) _).setCell (Nat.le_refl _) _⟩
                  exact (((((zn.far (a := ⟨w.heap.size, 0, none⟩) (fun h => h.1 rfl) _).far (a := ⟨w.heap.size, 1, none⟩) (fun h => h.1 rfl) _).far (a := ⟨w.heap.size, 2, none⟩) (fun h => h.1 rfl) _).far (a := ⟨w.heap.size, 3, none⟩) (fun h => h.1 rfl) _).far (a := ⟨w.heap.size, 4, none⟩) (fun h => h.1 rfl) _).imp (fun b _ h => h.1)
              · have ho3 : o9 ≤ 3 := by
                  have h1 := hO3.out (of_decide_eq_true hop.out.symm)
                  rw [← ho9.out]
                  omega
                have hop9t : Hid (true = decide (openF Zz ≤ 3)) := by
                  show true = _
                  rw [← hop9.out]
                  exact (decide_eq_true ho3).symm
                obtain ⟨Bnq0, Bnq1, Bnq2, Bnq3, Bnq4, Bnr0, Bnr1, Bnr2, Bnr3, Bnr4⟩ := Bn.five
                have Bnl := Bn.lt
                go_wp2_with fail
                clear Bnq0 Bnq1 Bnq2 Bnq3 Bnq4 Bnr0 Bnr1 Bnr2 Bnr3 Bnr4
                clear Bdq0 Bdq1 Bdq2 Bdq3 Bdq4 Bdr0 Bdr1 Bdr2 Bdr3 Bdr4
                have hC := dOpen_at size Lf dn Dw A9 n n Zz o9 wr zn ho9.out
                refine hC.mono ?_
                clear hC
                rintro e w9 ⟨rfl, b9⟩
                replace Bd := Bd.under b9
                replace Bn := Bn.under b9
                replace zx := zx.below b9
                replace zn := zn.below b9
                replace bb := bb.trans (b9.mono bb.size)
                obtain ⟨Bnq0, Bnq1, Bnq2, Bnq3, Bnq4, Bnr0, Bnr1, Bnr2, Bnr3, Bnr4⟩ := Bn.five
                have Bnl := Bn.lt
                go_wp2_with fail
                clear Bnq0 Bnq1 Bnq2 Bnq3 Bnq4 Bnr0 Bnr1 Bnr2 Bnr3 Bnr4
                have hC := dOpen_at size Lf dn Dw A9 n n Zz o9 w9 zn ho9.out
                refine hC.mono ?_
                clear hC
                rintro e w10 ⟨rfl, b10⟩
                replace Bd := Bd.under b10
                replace Bn := Bn.under b10
                replace zx := zx.below b10
                replace zn := zn.below b10
                replace bb := bb.trans (b10.mono bb.size)
                obtain ⟨Bnq0, Bnq1, Bnq2, Bnq3, Bnq4, Bnr0, Bnr1, Bnr2, Bnr3, Bnr4⟩ := Bn.five
                have Bnl := Bn.lt
                obtain ⟨Bdq0, Bdq1, Bdq2, Bdq3, Bdq4, Bdr0, Bdr1, Bdr2, Bdr3, Bdr4⟩ := Bd.five
                have Bdl := Bd.lt
                go_wp2
                go_roundg g
                case measure => omega
                case rel =>
                  refine ⟨k + 1, by have := hk.out; omega, by first | rfl | (simp; done), A9, n, Zz, Lf, dn, Dw, _, rfl, hc9, by first | exact hop9 | exact hop9t, hlf9, ((((Bd.set 0 _).set 1 _).set 2 _).set 3 _).set 4 _, ?_, ((((bb.setCell (Nat.le_refl _) _).setCell (Nat.le_refl _) _).setCell (Nat.le_refl _) _).setCell (Nat.le_refl _) _).setCell (Nat.le_refl _) _⟩
                  exact (((((zn.far (a := ⟨w.heap.size, 0, none⟩) (fun h => h.1 rfl) _).far (a := ⟨w.heap.size, 1, none⟩) (fun h => h.1 rfl) _).far (a := ⟨w.heap.size, 2, none⟩) (fun h => h.1 rfl) _).far (a := ⟨w.heap.size, 3, none⟩) (fun h => h.1 rfl) _).far (a := ⟨w.heap.size, 4, none⟩) (fun h => h.1 rfl) _).imp (fun b _ h => h.1)
        by_cases h2 : kd = 2
        · subst h2
          obtain ⟨Bdq0, Bdq1, Bdq2, Bdq3, Bdq4, Bdr0, Bdr1, Bdr2, Bdr3, Bdr4⟩ := Bd.five
          have Bdl := Bd.lt
          replace Bd := Bd.alloc (.cells #[.int .i64 size, .slice A2 n c2x, .int .i64 lf, .bool dw, .int .i64 dn] 25)
          replace zx := zx.alloc (.cells #[.int .i64 size, .slice A2 n c2x, .int .i64 lf, .bool dw, .int .i64 dn] 25)
          replace hbs := hbs.alloc (.cells #[.int .i64 size, .slice A2 n c2x, .int .i64 lf, .bool dw, .int .i64 dn] 25)
          replace sk := sk.alloc (.cells #[.int .i64 size, .slice A2 n c2x, .int .i64 lf, .bool dw, .int .i64 dn] 25)
          replace zw := zw.alloc (.cells #[.int .i64 size, .slice A2 n c2x, .int .i64 lf, .bool dw, .int .i64 dn] 25)
          replace bb := bb.alloc bb.size (.cells #[.int .i64 size, .slice A2 n c2x, .int .i64 lf, .bool dw, .int .i64 dn] 25)
          have Bw := Blk.new v1 #[.int .i64 size, .slice A2 n c2x, .int .i64 lf, .bool dw, .int .i64 dn] 25
          replace Bd := Bd.alloc (.cells #[.int .i64 0, .slice none 0 0, .int .i64 0, .bool false, .int .i64 0] 25)
          replace zx := zx.alloc (.cells #[.int .i64 0, .slice none 0 0, .int .i64 0, .bool false, .int .i64 0] 25)
          replace hbs := hbs.alloc (.cells #[.int .i64 0, .slice none 0 0, .int .i64 0, .bool false, .int .i64 0] 25)
          replace sk := sk.alloc (.cells #[.int .i64 0, .slice none 0 0, .int .i64 0, .bool false, .int .i64 0] 25)
          replace zw := zw.alloc (.cells #[.int .i64 0, .slice none 0 0, .int .i64 0, .bool false, .int .i64 0] 25)
          replace Bw := Bw.alloc (.cells #[.int .i64 0, .slice none 0 0, .int .i64 0, .bool false, .int .i64 0] 25)
          replace bb := bb.alloc bb.size (.cells #[.int .i64 0, .slice none 0 0, .int .i64 0, .bool false, .int .i64 0] 25)
          have Bn := Blk.new (v1.alloc (.cells #[.int .i64 size, .slice A2 n c2x, .int .i64 lf, .bool dw, .int .i64 dn] 25)) #[.int .i64 0, .slice none 0 0, .int .i64 0, .bool false, .int .i64 0] 25
          simp only [World.size_alloc] at Bn
          go_wp2_with fail
          clear Bdq0 Bdq1 Bdq2 Bdq3 Bdq4 Bdr0 Bdr1 Bdr2 Bdr3 Bdr4
          generalize ((v1.alloc (.cells #[.int .i64 size, .slice A2 n c2x, .int .i64 lf, .bool dw, .int .i64 dn] 25)).alloc (.cells #[.int .i64 0, .slice none 0 0, .int .i64 0, .bool false, .int .i64 0] 25)) = v2 at *
          obtain ⟨kw, hkw⟩ : ∃ k, v1.heap.size = k := ⟨_, rfl⟩
          obtain ⟨kn, hkn⟩ : ∃ k, kw + 1 = k := ⟨_, rfl⟩
          simp only [hkw, hkn] at Bw Bn zx zw hdl1 ⊢
          clear hkw
          have c0 := d0
          have c1 := d1
          have c2 := d2
          have hab := hab2
          clear d0 d1 d2 hab2
          obtain ⟨Zz, hZz⟩ : ∃ x, Hid (ruZs size lf dw zs 2 N bs = x) := ⟨_, rfl⟩
          obtain ⟨Lf, hLf⟩ : ∃ x, Hid (ruLf size lf dw zs = x) := ⟨_, rfl⟩
          obtain ⟨Dw, hDw⟩ : ∃ x, Hid (ruDw size lf dw zs = x) := ⟨_, rfl⟩
          obtain ⟨Dn, hDn⟩ : ∃ x, Hid (ruDn size lf dn dw zs = x) := ⟨_, rfl⟩
          obtain ⟨Er, hEr⟩ : ∃ x, Hid (ruEr size lf dw zs 2 N bs = x) := ⟨_, rfl⟩
          have hc9 : Hid (devF size Zz = true) := by
            show _ = true
            rw [← hZz.out]
            exact dev_ru lf dw 2 N bs hc.out
          have hO3 : Hid (openF zs ≤ 3 → openF Zz ≤ 3) := by
            intro h3
            rw [← hZz.out]
            exact (ok_ru lf dw 2 N bs hc.out h3).2
          have hlf9 : Lf < 9223372036854775808 := by
            rw [← hLf.out, ruLf]
            repeat' split
            all_goals omega
          have hnl := Bn.lt
          have hwl := Bd.lt
          refine region_join (α := Nat → Option Addr → Act) (R := fun T a w' => ∃ kv A5, a = T kv A5 ∧ Blk w' kv #[.int .i64 size, .slice A5 n n, .int .i64 Lf, .bool Dw, .int .i64 Dn] 25 ∧ Zs (fun b => v2.heap.size ≤ b ∧ b ≠ kv) w' A5 n n Zz ∧ v2.heap.size ≤ kv ∧ Below v2.heap.size v2 w') ?TY2 ?bodyY2 ?restY2
          case bodyY2 =>
            refine wp_region_held_drew (S := fun w' => Below v2.heap.size v2 w') (by kernel_rfl) (Below.refl _ _).drew (fun hHeld => ?_)
            have b := hHeld
            generalize v2.drew = wd at *
            try simp only [Act.put, List.setIfInBounds_toArray, List.set_cons_zero, List.set_cons_succ]
            refine wpAnyH_take (i := 0) (v := ?_) (by simp only [List.getElem?_toArray, List.getElem?_cons_zero]; rfl) (by kernel_rfl) (by kernel_rfl) (by kernel_rfl) (by intro _ _ _ h; exact nomatch h.1) (Or.inl ⟨by rfl, ?_⟩) hHeld ?_
            rotate_left 1
            · intro wq hSw
              try dsimp only at hSw
              obtain ⟨x0, x1, x2, x3, x4, _⟩ := (Bd.under hSw).five
              go_simp
              try (with_reducible rfl)
            try simp only [Act.put, List.setIfInBounds_toArray, List.set_cons_zero, List.set_cons_succ]
            refine wpAnyH_take (i := 1) (v := ?_) (by simp only [List.getElem?_toArray, List.getElem?_cons_succ, List.getElem?_cons_zero]; rfl) (by kernel_rfl) (by kernel_rfl) (by kernel_rfl) (by intro _ _ _ h; exact nomatch h.1) (Or.inl ⟨by rfl, ?_⟩) hHeld ?_
            rotate_left 1
            · intro wq hSw
              try dsimp only at hSw
              go_simp
              try (with_reducible rfl)
            try simp only [Act.put, List.setIfInBounds_toArray, List.set_cons_zero, List.set_cons_succ]
            refine wpAnyH_take (i := 2) (v := ?_) (by simp only [List.getElem?_toArray, List.getElem?_cons_succ, List.getElem?_cons_zero]; rfl) (by kernel_rfl) (by kernel_rfl) (by kernel_rfl) (by intro _ _ _ h; exact nomatch h.1) (Or.inl ⟨by rfl, ?_⟩) hHeld ?_
            rotate_left 1
            · intro wq hSw
              try dsimp only at hSw
              go_simp
              try (with_reducible rfl)
            try simp only [Act.put, List.setIfInBounds_toArray, List.set_cons_zero, List.set_cons_succ]
            refine wpAnyH_take (i := 3) (v := ?_) (by simp only [List.getElem?_toArray, List.getElem?_cons_succ, List.getElem?_cons_zero]; rfl) (by kernel_rfl) (by kernel_rfl) (by kernel_rfl) (by intro _ _ _ h; exact nomatch h.1) (Or.inl ⟨by rfl, ?_⟩) hHeld ?_
            rotate_left 1
            · intro wq hSw
              try dsimp only at hSw
              go_simp
              try (with_reducible rfl)
            try simp only [Act.put, List.setIfInBounds_toArray, List.set_cons_zero, List.set_cons_succ]
            refine wpAnyH_take (i := 4) (v := ?_) (by simp only [List.getElem?_toArray, List.getElem?_cons_succ, List.getElem?_cons_zero]; rfl) (by kernel_rfl) (by kernel_rfl) (by kernel_rfl) (by intro _ _ _ h; exact nomatch h.1) (Or.inl ⟨by rfl, ?_⟩) hHeld ?_
            rotate_left 1
            · intro wq hSw
              try dsimp only at hSw
              have y0 := (hSw.cell hab).trans c0
              have y1 := (hSw.cell hab).trans c1
              have y2 := (hSw.cell hab).trans c2
              go_simp
              try (with_reducible rfl)
            try simp only [Act.put, List.setIfInBounds_toArray, List.set_cons_zero, List.set_cons_succ]
            refine wpAnyH_ready (rs := [5, 9]) (by kernel_rfl) (by simp) ?_
            refine AllReadyH.cons (by simp only [List.getElem?_toArray, List.getElem?_cons_succ, List.getElem?_cons_zero]; rfl) (fun K hK => ?_) (AllReadyH.cons (by simp only [List.getElem?_toArray, List.getElem?_cons_succ, List.getElem?_cons_zero]; rfl) (fun K hK => ?_) AllReadyH.nil)
            · skip
              have hC := dDo_at size lf dn dw A n c zs 2 N Ab nb cb bs Lf Dn Dw Zz Er wd (zx.below b) hsm (hbs.below b) (by omega) hlf hLf.out hDn.out hDw.out hZz.out hEr.out
              go_simp
              refine hC.mono ?_
              rintro e w_5_1 ⟨A5, rfl, Y, bC⟩
              go_wp2_with fail
              have hbs := b.size
              replace Y := Y.imp (F' := fun x => v2.heap.size ≤ x) (fun x _ hx => by omega)
              clear hbs
              replace b := b.trans (bC.mono b.size)
              clear hC bC
              refine hK.out _ _ b (fun hHeld => ?_)
              clear hK K
              try simp only [Act.put, List.setIfInBounds_toArray, List.set_cons_zero, List.set_cons_succ]
              refine wpAnyH_take (i := 6) (v := ?_) (by simp only [List.getElem?_toArray, List.getElem?_cons_succ, List.getElem?_cons_zero]; rfl) (by kernel_rfl) (by kernel_rfl) (by kernel_rfl) (by intro _ _ _ h; exact nomatch h.1) (Or.inl ⟨by rfl, ?_⟩) hHeld ?_
              rotate_left 1
              · intro wq hSw
                try dsimp only at hSw
                go_simp
                try (with_reducible rfl)
              try simp only [Act.put, List.setIfInBounds_toArray, List.set_cons_zero, List.set_cons_succ]
              refine wpAnyH_take (i := 7) (v := ?_) (by simp only [List.getElem?_toArray, List.getElem?_cons_succ, List.getElem?_cons_zero]; rfl) (by kernel_rfl) (by kernel_rfl) (by kernel_rfl) (by intro _ _ _ h; exact nomatch h.1) (Or.inl ⟨by rfl, ?_⟩) hHeld ?_
              rotate_left 1
              · intro wq hSw
                try dsimp only at hSw
                go_simp
                try (with_reducible rfl)
              try simp only [Act.put, List.setIfInBounds_toArray, List.set_cons_zero, List.set_cons_succ]
              refine wpAnyH_take (i := 8) (v := ?_) (by simp only [List.getElem?_toArray, List.getElem?_cons_succ, List.getElem?_cons_zero]; rfl) (by kernel_rfl) (by kernel_rfl) (by kernel_rfl) (by intro _ _ _ h; exact nomatch h.1) (Or.inl ⟨by rfl, ?_⟩) hHeld ?_
              rotate_left 1
              · intro wq hSw
                try dsimp only at hSw
                go_simp
                try (with_reducible rfl)
              try simp only [Act.put, List.setIfInBounds_toArray, List.set_cons_zero, List.set_cons_succ]
              refine wpAnyH_ready (rs := [9]) (by kernel_rfl) (by simp) ?_
              refine AllReadyH.cons (by simp only [List.getElem?_toArray, List.getElem?_cons_succ, List.getElem?_cons_zero]; rfl) (fun K hK => ?_) AllReadyH.nil
              obtain ⟨kv, hkv⟩ : ∃ k, w_5_1.heap.size = k := ⟨_, rfl⟩
              go_simp
              try simp only [hkv]
              have V := Blk.new w_5_1 #[.int .i64 0, .slice none 0 0, .int .i64 0, .bool false, .int .i64 0] 25
              rw [hkv] at V
              have hcv : v2.heap.size ≤ kv := by rw [← hkv]; exact b.size
              replace Y := (Y.imp (F' := fun x => v2.heap.size ≤ x ∧ x ≠ kv) (fun x hx hf => ⟨hf, by omega⟩)).alloc (.cells #[.int .i64 0, .slice none 0 0, .int .i64 0, .bool false, .int .i64 0] 25)
              replace b := b.alloc b.size (.cells #[.int .i64 0, .slice none 0 0, .int .i64 0, .bool false, .int .i64 0] 25)
              generalize w_5_1.alloc (.cells #[.int .i64 0, .slice none 0 0, .int .i64 0, .bool false, .int .i64 0] 25) = w_9_2 at *
              refine hK.out _ _ b (fun hHeld => ?_)
              clear hK K
              try simp only [Act.put, List.setIfInBounds_toArray, List.set_cons_zero, List.set_cons_succ]
              refine wpAnyH_ready (rs := [10]) (by kernel_rfl) (by simp) ?_
              refine AllReadyH.cons (by simp only [List.getElem?_toArray, List.getElem?_cons_succ, List.getElem?_cons_zero]; rfl) (fun K hK => ?_) AllReadyH.nil
              obtain ⟨q0, q1, q2, q3, q4, i0', i1', i2', i3', i4'⟩ := V.five
              go_simp
              have V2 := (((((V.set 0 (.int .i64 size)).set 1 (.slice A5 n n)).set 2 (.int .i64 Lf)).set 3 (.bool Dw)).set 4 (.int .i64 Dn))
              simp only [List.setIfInBounds_toArray, List.set_cons_zero, List.set_cons_succ] at V2
              have Y2 := (((((Y.far (a := ⟨kv, 0, none⟩) (fun h => h.2 rfl) (.int .i64 size)).far (a := ⟨kv, 1, none⟩) (fun h => h.2 rfl) (.slice A5 n n)).far (a := ⟨kv, 2, none⟩) (fun h => h.2 rfl) (.int .i64 Lf)).far (a := ⟨kv, 3, none⟩) (fun h => h.2 rfl) (.bool Dw)).far (a := ⟨kv, 4, none⟩) (fun h => h.2 rfl) (.int .i64 Dn))
              have b2 := (((((b.setCell (p := ⟨kv, 0, none⟩) hcv (.int .i64 size)).setCell (p := ⟨kv, 1, none⟩) hcv (.slice A5 n n)).setCell (p := ⟨kv, 2, none⟩) hcv (.int .i64 Lf)).setCell (p := ⟨kv, 3, none⟩) hcv (.bool Dw)).setCell (p := ⟨kv, 4, none⟩) hcv (.int .i64 Dn))
              clear q0 q1 q2 q3 q4 i0' i1' i2' i3' i4'
              clear V Y b
              generalize (((((w_9_2.setCell ⟨kv, 0, none⟩ (.int .i64 size)).setCell ⟨kv, 1, none⟩ (.slice A5 n n)).setCell ⟨kv, 2, none⟩ (.int .i64 Lf)).setCell ⟨kv, 3, none⟩ (.bool Dw)).setCell ⟨kv, 4, none⟩ (.int .i64 Dn)) = w_10_3 at *
              have V := V2
              have Y := Y2
              have b := b2
              clear V2 Y2 b2
              refine hK.out _ _ b (fun hHeld => ?_)
              clear hK K
              try simp only [Act.put, List.setIfInBounds_toArray, List.set_cons_zero, List.set_cons_succ]
              refine wpAnyH_take (i := 11) (v := ?_) (by simp only [List.getElem?_toArray, List.getElem?_cons_succ, List.getElem?_cons_zero]; rfl) (by kernel_rfl) (by kernel_rfl) (by kernel_rfl) (by intro _ _ _ h; exact nomatch h.1) (Or.inl ⟨by rfl, ?_⟩) hHeld ?_
              rotate_left 1
              · intro wq hSw
                try dsimp only at hSw
                go_simp
                try (with_reducible rfl)
              try simp only [Act.put, List.setIfInBounds_toArray, List.set_cons_zero, List.set_cons_succ]
              refine wpAnyH_done (by kernel_rfl) ?_ _
              refine ⟨rfl, kv, A5, ?_, V, Y, hcv, b⟩
              with_reducible rfl
            · skip
              obtain ⟨kv, hkv⟩ : ∃ k, wd.heap.size = k := ⟨_, rfl⟩
              go_simp
              try simp only [hkv]
              have V := Blk.new wd #[.int .i64 0, .slice none 0 0, .int .i64 0, .bool false, .int .i64 0] 25
              rw [hkv] at V
              have hcv : v2.heap.size ≤ kv := by rw [← hkv]; exact b.size
              replace b := b.alloc b.size (.cells #[.int .i64 0, .slice none 0 0, .int .i64 0, .bool false, .int .i64 0] 25)
              generalize wd.alloc (.cells #[.int .i64 0, .slice none 0 0, .int .i64 0, .bool false, .int .i64 0] 25) = w_9_1 at *
              refine hK.out _ _ b (fun hHeld => ?_)
              clear hK K
              try simp only [Act.put, List.setIfInBounds_toArray, List.set_cons_zero, List.set_cons_succ]
              refine wpAnyH_ready (rs := [5]) (by kernel_rfl) (by simp) ?_
              refine AllReadyH.cons (by simp only [List.getElem?_toArray, List.getElem?_cons_succ, List.getElem?_cons_zero]; rfl) (fun K hK => ?_) AllReadyH.nil
              have hC := dDo_at size lf dn dw A n c zs 2 N Ab nb cb bs Lf Dn Dw Zz Er w_9_1 (zx.below b) hsm (hbs.below b) (by omega) hlf hLf.out hDn.out hDw.out hZz.out hEr.out
              go_simp
              refine hC.mono ?_
              rintro e w_5_2 ⟨A5, rfl, Y, bC⟩
              go_wp2_with fail
              have hbs := b.size
              have hvl := V.lt
              replace Y := Y.imp (F' := fun x => v2.heap.size ≤ x ∧ x ≠ kv) (fun x _ hx => ⟨by omega, by omega⟩)
              clear hbs hvl
              replace V := V.under bC
              replace b := b.trans (bC.mono b.size)
              clear hC bC
              refine hK.out _ _ b (fun hHeld => ?_)
              clear hK K
              try simp only [Act.put, List.setIfInBounds_toArray, List.set_cons_zero, List.set_cons_succ]
              refine wpAnyH_take (i := 6) (v := ?_) (by simp only [List.getElem?_toArray, List.getElem?_cons_succ, List.getElem?_cons_zero]; rfl) (by kernel_rfl) (by kernel_rfl) (by kernel_rfl) (by intro _ _ _ h; exact nomatch h.1) (Or.inl ⟨by rfl, ?_⟩) hHeld ?_
              rotate_left 1
              · intro wq hSw
                try dsimp only at hSw
                go_simp
                try (with_reducible rfl)
              try simp only [Act.put, List.setIfInBounds_toArray, List.set_cons_zero, List.set_cons_succ]
              refine wpAnyH_take (i := 7) (v := ?_) (by simp only [List.getElem?_toArray, List.getElem?_cons_succ, List.getElem?_cons_zero]; rfl) (by kernel_rfl) (by kernel_rfl) (by kernel_rfl) (by intro _ _ _ h; exact nomatch h.1) (Or.inl ⟨by rfl, ?_⟩) hHeld ?_
              rotate_left 1
              · intro wq hSw
                try dsimp only at hSw
                go_simp
                try (with_reducible rfl)
              try simp only [Act.put, List.setIfInBounds_toArray, List.set_cons_zero, List.set_cons_succ]
              refine wpAnyH_take (i := 8) (v := ?_) (by simp only [List.getElem?_toArray, List.getElem?_cons_succ, List.getElem?_cons_zero]; rfl) (by kernel_rfl) (by kernel_rfl) (by kernel_rfl) (by intro _ _ _ h; exact nomatch h.1) (Or.inl ⟨by rfl, ?_⟩) hHeld ?_
              rotate_left 1
              · intro wq hSw
                try dsimp only at hSw
                go_simp
                try (with_reducible rfl)
              try simp only [Act.put, List.setIfInBounds_toArray, List.set_cons_zero, List.set_cons_succ]
              refine wpAnyH_ready (rs := [10]) (by kernel_rfl) (by simp) ?_
              refine AllReadyH.cons (by simp only [List.getElem?_toArray, List.getElem?_cons_succ, List.getElem?_cons_zero]; rfl) (fun K hK => ?_) AllReadyH.nil
              obtain ⟨q0, q1, q2, q3, q4, i0', i1', i2', i3', i4'⟩ := V.five
              go_simp
              have V2 := (((((V.set 0 (.int .i64 size)).set 1 (.slice A5 n n)).set 2 (.int .i64 Lf)).set 3 (.bool Dw)).set 4 (.int .i64 Dn))
              simp only [List.setIfInBounds_toArray, List.set_cons_zero, List.set_cons_succ] at V2
              have Y2 := (((((Y.far (a := ⟨kv, 0, none⟩) (fun h => h.2 rfl) (.int .i64 size)).far (a := ⟨kv, 1, none⟩) (fun h => h.2 rfl) (.slice A5 n n)).far (a := ⟨kv, 2, none⟩) (fun h => h.2 rfl) (.int .i64 Lf)).far (a := ⟨kv, 3, none⟩) (fun h => h.2 rfl) (.bool Dw)).far (a := ⟨kv, 4, none⟩) (fun h => h.2 rfl) (.int .i64 Dn))
              have b2 := (((((b.setCell (p := ⟨kv, 0, none⟩) hcv (.int .i64 size)).setCell (p := ⟨kv, 1, none⟩) hcv (.slice A5 n n)).setCell (p := ⟨kv, 2, none⟩) hcv (.int .i64 Lf)).setCell (p := ⟨kv, 3, none⟩) hcv (.bool Dw)).setCell (p := ⟨kv, 4, none⟩) hcv (.int .i64 Dn))
              clear q0 q1 q2 q3 q4 i0' i1' i2' i3' i4'
              clear V Y b
              generalize (((((w_5_2.setCell ⟨kv, 0, none⟩ (.int .i64 size)).setCell ⟨kv, 1, none⟩ (.slice A5 n n)).setCell ⟨kv, 2, none⟩ (.int .i64 Lf)).setCell ⟨kv, 3, none⟩ (.bool Dw)).setCell ⟨kv, 4, none⟩ (.int .i64 Dn)) = w_10_3 at *
              have V := V2
              have Y := Y2
              have b := b2
              clear V2 Y2 b2
              refine hK.out _ _ b (fun hHeld => ?_)
              clear hK K
              try simp only [Act.put, List.setIfInBounds_toArray, List.set_cons_zero, List.set_cons_succ]
              refine wpAnyH_take (i := 11) (v := ?_) (by simp only [List.getElem?_toArray, List.getElem?_cons_succ, List.getElem?_cons_zero]; rfl) (by kernel_rfl) (by kernel_rfl) (by kernel_rfl) (by intro _ _ _ h; exact nomatch h.1) (Or.inl ⟨by rfl, ?_⟩) hHeld ?_
              rotate_left 1
              · intro wq hSw
                try dsimp only at hSw
                go_simp
                try (with_reducible rfl)
              try simp only [Act.put, List.setIfInBounds_toArray, List.set_cons_zero, List.set_cons_succ]
              refine wpAnyH_done (by kernel_rfl) ?_ _
              refine ⟨rfl, kv, A5, ?_, V, Y, hcv, b⟩
              with_reducible rfl
          rintro a w5 ⟨kv, A5, rfl, V, Y, hkv, b5⟩
          try dsimp only
          replace c0 := (b5.cell hab).trans c0
          replace hab := Nat.lt_of_lt_of_le hab b5.size
          have zn := Y.imp (F' := fun b => b ≠ w.heap.size ∧ b ≠ kn) (fun b hb hf => ⟨by have := hf.1; omega, by have := hf.1; omega⟩)
          clear Y hbs sk c1 c2
          replace Bd := Bd.under b5
          replace Bw := Bw.under b5
          replace Bn := Bn.under b5
          replace zx := zx.below b5
          replace zw := zw.below b5
          replace bb := bb.trans (b5.mono bb.size)
          have hvn : ¬ kv = kn := by omega
          have hvn2 : ¬ kn = kv := by omega
          have hwn : w.heap.size ≤ kn := by omega
          have hBn := (((((Bn.set 0 (.int .i64 size)).set 1 (.slice A5 n n)).set 2 (.int .i64 Lf)).set 3 (.bool Dw)).set 4 (.int .i64 Dn))
          simp only [List.setIfInBounds_toArray, List.set_cons_zero, List.set_cons_succ] at hBn
          have hBd := (((((Bd.far (a := ⟨kn, 0, none⟩) (by simp; omega) (.int .i64 size)).far (a := ⟨kn, 1, none⟩) (by simp; omega) (.slice A5 n n)).far (a := ⟨kn, 2, none⟩) (by simp; omega) (.int .i64 Lf)).far (a := ⟨kn, 3, none⟩) (by simp; omega) (.bool Dw)).far (a := ⟨kn, 4, none⟩) (by simp; omega) (.int .i64 Dn))
          have hBw := (((((Bw.far (a := ⟨kn, 0, none⟩) (by simp; omega) (.int .i64 size)).far (a := ⟨kn, 1, none⟩) (by simp; omega) (.slice A5 n n)).far (a := ⟨kn, 2, none⟩) (by simp; omega) (.int .i64 Lf)).far (a := ⟨kn, 3, none⟩) (by simp; omega) (.bool Dw)).far (a := ⟨kn, 4, none⟩) (by simp; omega) (.int .i64 Dn))
          have hzx := (((((zx.far (a := ⟨kn, 0, none⟩) (fun h => by have := h.2; simp at this; omega) (.int .i64 size)).far (a := ⟨kn, 1, none⟩) (fun h => by have := h.2; simp at this; omega) (.slice A5 n n)).far (a := ⟨kn, 2, none⟩) (fun h => by have := h.2; simp at this; omega) (.int .i64 Lf)).far (a := ⟨kn, 3, none⟩) (fun h => by have := h.2; simp at this; omega) (.bool Dw)).far (a := ⟨kn, 4, none⟩) (fun h => by have := h.2; simp at this; omega) (.int .i64 Dn))
          have hzw := (((((zw.far (a := ⟨kn, 0, none⟩) (fun h => by simp at h; omega) (.int .i64 size)).far (a := ⟨kn, 1, none⟩) (fun h => by simp at h; omega) (.slice A5 n n)).far (a := ⟨kn, 2, none⟩) (fun h => by simp at h; omega) (.int .i64 Lf)).far (a := ⟨kn, 3, none⟩) (fun h => by simp at h; omega) (.bool Dw)).far (a := ⟨kn, 4, none⟩) (fun h => by simp at h; omega) (.int .i64 Dn))
          have hzn := (((((zn.far (a := ⟨kn, 0, none⟩) (fun h => h.2 rfl) (.int .i64 size)).far (a := ⟨kn, 1, none⟩) (fun h => h.2 rfl) (.slice A5 n n)).far (a := ⟨kn, 2, none⟩) (fun h => h.2 rfl) (.int .i64 Lf)).far (a := ⟨kn, 3, none⟩) (fun h => h.2 rfl) (.bool Dw)).far (a := ⟨kn, 4, none⟩) (fun h => h.2 rfl) (.int .i64 Dn))
          have hbb := (((((bb.setCell (p := ⟨kn, 0, none⟩) hwn (.int .i64 size)).setCell (p := ⟨kn, 1, none⟩) hwn (.slice A5 n n)).setCell (p := ⟨kn, 2, none⟩) hwn (.int .i64 Lf)).setCell (p := ⟨kn, 3, none⟩) hwn (.bool Dw)).setCell (p := ⟨kn, 4, none⟩) hwn (.int .i64 Dn))
          have hc0 : (((((w5.setCell ⟨kn, 0, none⟩ (.int .i64 size)).setCell ⟨kn, 1, none⟩ (.slice A5 n n)).setCell ⟨kn, 2, none⟩ (.int .i64 Lf)).setCell ⟨kn, 3, none⟩ (.bool Dw)).setCell ⟨kn, 4, none⟩ (.int .i64 Dn)).cell? ⟨ab, ao + k * 3, none⟩ = some (.int .i64 2) := by
            have hne : ∀ i : Nat, (⟨ab, ao + k * 3, none⟩ : Addr).block ≠ (⟨kn, i, none⟩ : Addr).block := fun i => by simp; omega
            rw [cell_far _ _ (hne 4), cell_far _ _ (hne 3), cell_far _ _ (hne 2), cell_far _ _ (hne 1), cell_far _ _ (hne 0)]
            exact c0
          have hha : ab < (((((w5.setCell ⟨kn, 0, none⟩ (.int .i64 size)).setCell ⟨kn, 1, none⟩ (.slice A5 n n)).setCell ⟨kn, 2, none⟩ (.int .i64 Lf)).setCell ⟨kn, 3, none⟩ (.bool Dw)).setCell ⟨kn, 4, none⟩ (.int .i64 Dn)).heap.size := by simpa [World.setCell] using hab
          have hne1 : ¬ w.heap.size = kn := by omega
          have hne2 : ¬ kw = kn := by omega
          have hne3 : ¬ kn = w.heap.size := by omega
          have hne4 : ¬ kn = kw := by omega
          clear c0
          obtain ⟨Bdq0, Bdq1, Bdq2, Bdq3, Bdq4, Bdr0, Bdr1, Bdr2, Bdr3, Bdr4⟩ := Bd.five
          have Bdl := Bd.lt
          obtain ⟨Bwq0, Bwq1, Bwq2, Bwq3, Bwq4, Bwr0, Bwr1, Bwr2, Bwr3, Bwr4⟩ := Bw.five
          have Bwl := Bw.lt
          obtain ⟨Bnq0, Bnq1, Bnq2, Bnq3, Bnq4, Bnr0, Bnr1, Bnr2, Bnr3, Bnr4⟩ := Bn.five
          have Bnl := Bn.lt
          obtain ⟨Vq0, Vq1, Vq2, Vq3, Vq4, Vr0, Vr1, Vr2, Vr3, Vr4⟩ := V.five
          have Vl := V.lt
          go_wp2_with fail
          clear Bdq0 Bdq1 Bdq2 Bdq3 Bdq4 Bdr0 Bdr1 Bdr2 Bdr3 Bdr4
          clear Bwq0 Bwq1 Bwq2 Bwq3 Bwq4 Bwr0 Bwr1 Bwr2 Bwr3 Bwr4
          clear Bnq0 Bnq1 Bnq2 Bnq3 Bnq4 Bnr0 Bnr1 Bnr2 Bnr3 Bnr4
          clear Vq0 Vq1 Vq2 Vq3 Vq4 Vr0 Vr1 Vr2 Vr3 Vr4
          clear Bd Bw Bn zx zw zn bb hab
          generalize (((((w5.setCell ⟨kn, 0, none⟩ (.int .i64 size)).setCell ⟨kn, 1, none⟩ (.slice A5 n n)).setCell ⟨kn, 2, none⟩ (.int .i64 Lf)).setCell ⟨kn, 3, none⟩ (.bool Dw)).setCell ⟨kn, 4, none⟩ (.int .i64 Dn)) = x1 at *
          have Bd := hBd
          have Bw := hBw
          have Bn := hBn
          have zx := hzx
          have zw := hzw
          have zn := hzn
          have bb := hbb
          have c0 := hc0
          have hab := hha
          clear hBd hBw hBn hzx hzw hzn hbb hc0 hha
          have hC := refSame4_eq size lf dn dw A n c A2 c2x zs x1 zx zw (by omega)
          refine hC.mono ?_
          clear hC
          rintro e u1 ⟨rfl, b6⟩
          replace Bd := Bd.under b6
          replace Bw := Bw.under b6
          replace Bn := Bn.under b6
          replace zx := zx.below b6
          replace zw := zw.below b6
          replace zn := zn.below b6
          replace bb := bb.trans (b6.mono bb.size)
          replace c0 := (b6.cell hab).trans c0
          replace hab := Nat.lt_of_lt_of_le hab b6.size
          clear zw Bw
          obtain ⟨Bnq0, Bnq1, Bnq2, Bnq3, Bnq4, Bnr0, Bnr1, Bnr2, Bnr3, Bnr4⟩ := Bn.five
          have Bnl := Bn.lt
          go_wp2_with fail
          clear Bnq0 Bnq1 Bnq2 Bnq3 Bnq4 Bnr0 Bnr1 Bnr2 Bnr3 Bnr4
          have hC := dCheck_at size Lf Dn Dw A5 n n Zz true u1 zn hc9.out
          refine hC.mono ?_
          clear hC
          rintro e u2 ⟨rfl, b7⟩
          replace Bd := Bd.under b7
          replace Bn := Bn.under b7
          replace zx := zx.below b7
          replace zn := zn.below b7
          replace bb := bb.trans (b7.mono bb.size)
          replace c0 := (b7.cell hab).trans c0
          replace hab := Nat.lt_of_lt_of_le hab b7.size
          obtain ⟨Bdq0, Bdq1, Bdq2, Bdq3, Bdq4, Bdr0, Bdr1, Bdr2, Bdr3, Bdr4⟩ := Bd.five
          have Bdl := Bd.lt
          obtain ⟨Bnq0, Bnq1, Bnq2, Bnq3, Bnq4, Bnr0, Bnr1, Bnr2, Bnr3, Bnr4⟩ := Bn.five
          have Bnl := Bn.lt
          go_wp2_with fail
          clear Bdq0 Bdq1 Bdq2 Bdq3 Bdq4 Bdr0 Bdr1 Bdr2 Bdr3 Bdr4
          clear Bnq0 Bnq1 Bnq2 Bnq3 Bnq4 Bnr0 Bnr1 Bnr2 Bnr3 Bnr4
          go_loopg [15] n (fun g i wr => ∃ j : Nat, j + g = n ∧ i = .int .i64 (j : Int) ∧ Below u2.heap.size u2 wr)
          case atStart => exact ⟨0, by omega, rfl, Below.refl _ _⟩
          case round =>
            obtain ⟨j, hj, rfl, br⟩ := hrel
            replace Bd := Bd.under br
            replace Bn := Bn.under br
            replace zx := zx.below br
            replace zn := zn.below br
            replace bb := bb.trans (br.mono bb.size)
            replace c0 := (br.cell hab).trans c0
            replace hab := Nat.lt_of_lt_of_le hab br.size
            obtain ⟨Bdq0, Bdq1, Bdq2, Bdq3, Bdq4, Bdr0, Bdr1, Bdr2, Bdr3, Bdr4⟩ := Bd.five
            have Bdl := Bd.lt
            by_cases hltj : (j : Int) < (n : Int)
            · skip
              obtain ⟨g', rfl⟩ : ∃ g', gk = g' + 1 := ⟨gk - 1, by omega⟩
              obtain ⟨gb, o, z, Ai, ci, rfl, _, hg, hz, e0, e1, e2, e3, hSz, _⟩ := zx.at_ (show j < n by omega)
              obtain ⟨gx, ox, zy, Ay, cy, rfl, _, hgx, hzy, f0, f1, f2, f3, hSy, _⟩ := zn.at_ (show j < n by omega)
              have hcp := zx.cap
              have hcq := zn.cap
              replace hj : Hid _ := hj
              have hchk := chk_all ((dev_parts.1 hc.out).2 z (List.mem_of_getElem? hz))
              obtain ⟨m, hm⟩ : ∃ m : Nat, z.la = (m : Int) := ⟨z.la.toNat, by omega⟩
              have hml : m ≤ z.l.length := by omega
              clear hchk
              rw [hm] at e3
              clear hz hzy hm
              go_wp2_with fail
              clear Bdq0 Bdq1 Bdq2 Bdq3 Bdq4 Bdr0 Bdr1 Bdr2 Bdr3 Bdr4
              refine wp_region_held_drew (S := fun w' => Below wr.heap.size wr w') (by kernel_rfl) (Below.refl _ _).drew (fun hHeld => ?_)
              try dsimp only at hHeld
              have bd : Below wr.heap.size wr wr.drew := (Below.refl wr.heap.size wr).drew
              generalize wr.drew = wd at *
              try simp only [Act.put, List.setIfInBounds_toArray, List.set_cons_zero, List.set_cons_succ]
              refine wpAnyH_take (i := 0) (v := ?_) (by simp only [List.getElem?_toArray, List.getElem?_cons_zero]; rfl) (by kernel_rfl) (by kernel_rfl) (by kernel_rfl) (by intro _ _ _ h; exact h) (Or.inl ⟨by rfl, ?_⟩) hHeld ?_
              rotate_left 1
              · intro wq hSw
                try dsimp only at hSw
                go_simp
                try (with_reducible rfl)
              try simp only [Act.put, List.setIfInBounds_toArray, List.set_cons_zero, List.set_cons_succ]
              refine wpAnyH_take (i := 1) (v := ?_) (by simp only [List.getElem?_toArray, List.getElem?_cons_succ, List.getElem?_cons_zero]; rfl) (by kernel_rfl) (by kernel_rfl) (by kernel_rfl) (by intro _ _ _ h; exact h) (Or.inl ⟨by rfl, ?_⟩) hHeld ?_
              rotate_left 1
              · intro wq hSw
                try dsimp only at hSw
                go_simp
                try (with_reducible rfl)
              try simp only [Act.put, List.setIfInBounds_toArray, List.set_cons_zero, List.set_cons_succ]
              refine wpAnyH_take (i := 2) (v := ?_) (by simp only [List.getElem?_toArray, List.getElem?_cons_succ, List.getElem?_cons_zero]; rfl) (by kernel_rfl) (by kernel_rfl) (by kernel_rfl) (by intro _ _ _ h; exact h) (Or.inl ⟨by rfl, ?_⟩) hHeld ?_
              rotate_left 1
              · intro wq hSw
                try dsimp only at hSw
                go_simp
                try (with_reducible rfl)
              try simp only [Act.put, List.setIfInBounds_toArray, List.set_cons_zero, List.set_cons_succ]
              refine wpAnyH_take (i := 3) (v := ?_) (by simp only [List.getElem?_toArray, List.getElem?_cons_succ, List.getElem?_cons_zero]; rfl) (by kernel_rfl) (by kernel_rfl) (by kernel_rfl) (by intro _ _ _ h; exact h) (Or.inl ⟨by rfl, ?_⟩) hHeld ?_
              rotate_left 1
              · intro wq hSw
                try dsimp only at hSw
                go_simp
                try (with_reducible rfl)
              try simp only [Act.put, List.setIfInBounds_toArray, List.set_cons_zero, List.set_cons_succ]
              refine wpAnyH_take (i := 4) (v := ?_) (by simp only [List.getElem?_toArray, List.getElem?_cons_succ, List.getElem?_cons_zero]; rfl) (by kernel_rfl) (by kernel_rfl) (by kernel_rfl) (by intro _ _ _ h; exact h) (Or.inl ⟨by rfl, ?_⟩) hHeld ?_
              rotate_left 1
              · intro wq hSw
                try dsimp only at hSw
                have x0 := (hSw.cell hab).trans c0
                go_simp
                try (with_reducible rfl)
              try simp only [Act.put, List.setIfInBounds_toArray, List.set_cons_zero, List.set_cons_succ]
              refine wpAnyH_take (i := 5) (v := ?_) (by simp only [List.getElem?_toArray, List.getElem?_cons_succ, List.getElem?_cons_zero]; rfl) (by kernel_rfl) (by kernel_rfl) (by kernel_rfl) (by intro _ _ _ h; exact h) (Or.inl ⟨by rfl, ?_⟩) hHeld ?_
              rotate_left 1
              · intro wq hSw
                try dsimp only at hSw
                go_simp
                try (with_reducible rfl)
              try simp only [Act.put, List.setIfInBounds_toArray, List.set_cons_zero, List.set_cons_succ]
              refine wpAnyH_take (i := 6) (v := ?_) (by simp only [List.getElem?_toArray, List.getElem?_cons_succ, List.getElem?_cons_zero]; rfl) (by kernel_rfl) (by kernel_rfl) (by kernel_rfl) (by intro _ _ _ h; exact h) (Or.inl ⟨by rfl, ?_⟩) hHeld ?_
              rotate_left 1
              · intro wq hSw
                try dsimp only at hSw
                go_simp
                try (with_reducible rfl)
              try simp only [Act.put, List.setIfInBounds_toArray, List.set_cons_zero, List.set_cons_succ]
              refine wpAnyH_take (i := 7) (v := undef) (by simp only [List.getElem?_toArray, List.getElem?_cons_succ, List.getElem?_cons_zero]; rfl) (by kernel_rfl) (by kernel_rfl) (by kernel_rfl) (by intro _ _ _ h; exact h) (Or.inr ⟨by rfl, rfl⟩) hHeld ?_
              try simp only [Act.put, List.setIfInBounds_toArray, List.set_cons_zero, List.set_cons_succ]
              refine wpAnyH_take (i := 8) (v := undef) (by simp only [List.getElem?_toArray, List.getElem?_cons_succ, List.getElem?_cons_zero]; rfl) (by kernel_rfl) (by kernel_rfl) (by kernel_rfl) (by intro _ _ _ h; exact h) (Or.inr ⟨by rfl, rfl⟩) hHeld ?_
              try simp only [Act.put, List.setIfInBounds_toArray, List.set_cons_zero, List.set_cons_succ]
              refine wpAnyH_take (i := 9) (v := undef) (by simp only [List.getElem?_toArray, List.getElem?_cons_succ, List.getElem?_cons_zero]; rfl) (by kernel_rfl) (by kernel_rfl) (by kernel_rfl) (by intro _ _ _ h; exact h) (Or.inr ⟨by rfl, rfl⟩) hHeld ?_
              try simp only [Act.put, List.setIfInBounds_toArray, List.set_cons_zero, List.set_cons_succ]
              refine wpAnyH_take (i := 10) (v := undef) (by simp only [List.getElem?_toArray, List.getElem?_cons_succ, List.getElem?_cons_zero]; rfl) (by kernel_rfl) (by kernel_rfl) (by kernel_rfl) (by intro _ _ _ h; exact h) (Or.inr ⟨by rfl, rfl⟩) hHeld ?_
              try simp only [Act.put, List.setIfInBounds_toArray, List.set_cons_zero, List.set_cons_succ]
              refine wpAnyH_take (i := 11) (v := undef) (by simp only [List.getElem?_toArray, List.getElem?_cons_succ, List.getElem?_cons_zero]; rfl) (by kernel_rfl) (by kernel_rfl) (by kernel_rfl) (by intro _ _ _ h; exact h) (Or.inr ⟨by rfl, rfl⟩) hHeld ?_
              try simp only [Act.put, List.setIfInBounds_toArray, List.set_cons_zero, List.set_cons_succ]
              refine wpAnyH_take (i := 12) (v := undef) (by simp only [List.getElem?_toArray, List.getElem?_cons_succ, List.getElem?_cons_zero]; rfl) (by kernel_rfl) (by kernel_rfl) (by kernel_rfl) (by intro _ _ _ h; exact h) (Or.inr ⟨by rfl, rfl⟩) hHeld ?_
              try simp only [Act.put, List.setIfInBounds_toArray, List.set_cons_zero, List.set_cons_succ]
              refine wpAnyH_take (i := 13) (v := undef) (by simp only [List.getElem?_toArray, List.getElem?_cons_succ, List.getElem?_cons_zero]; rfl) (by kernel_rfl) (by kernel_rfl) (by kernel_rfl) (by intro _ _ _ h; exact h) (Or.inr ⟨by rfl, rfl⟩) hHeld ?_
              try simp only [Act.put, List.setIfInBounds_toArray, List.set_cons_zero, List.set_cons_succ]
              refine wpAnyH_take (i := 14) (v := undef) (by simp only [List.getElem?_toArray, List.getElem?_cons_succ, List.getElem?_cons_zero]; rfl) (by kernel_rfl) (by kernel_rfl) (by kernel_rfl) (by intro _ _ _ h; exact h) (Or.inr ⟨by rfl, rfl⟩) hHeld ?_
              try simp only [Act.put, List.setIfInBounds_toArray, List.set_cons_zero, List.set_cons_succ]
              refine wpAnyH_take (i := 15) (v := undef) (by simp only [List.getElem?_toArray, List.getElem?_cons_succ, List.getElem?_cons_zero]; rfl) (by kernel_rfl) (by kernel_rfl) (by kernel_rfl) (by intro _ _ _ h; exact h) (Or.inr ⟨by rfl, rfl⟩) hHeld ?_
              try simp only [Act.put, List.setIfInBounds_toArray, List.set_cons_zero, List.set_cons_succ]
              refine wpAnyH_take (i := 16) (v := undef) (by simp only [List.getElem?_toArray, List.getElem?_cons_succ, List.getElem?_cons_zero]; rfl) (by kernel_rfl) (by kernel_rfl) (by kernel_rfl) (by intro _ _ _ h; exact h) (Or.inr ⟨by rfl, rfl⟩) hHeld ?_
              try simp only [Act.put, List.setIfInBounds_toArray, List.set_cons_zero, List.set_cons_succ]
              refine wpAnyH_take (i := 17) (v := undef) (by simp only [List.getElem?_toArray, List.getElem?_cons_succ, List.getElem?_cons_zero]; rfl) (by kernel_rfl) (by kernel_rfl) (by kernel_rfl) (by intro _ _ _ h; exact h) (Or.inr ⟨by rfl, rfl⟩) hHeld ?_
              try simp only [Act.put, List.setIfInBounds_toArray, List.set_cons_zero, List.set_cons_succ]
              refine wpAnyH_take (i := 18) (v := undef) (by simp only [List.getElem?_toArray, List.getElem?_cons_succ, List.getElem?_cons_zero]; rfl) (by kernel_rfl) (by kernel_rfl) (by kernel_rfl) (by intro _ _ _ h; exact h) (Or.inr ⟨by rfl, rfl⟩) hHeld ?_
              try simp only [Act.put, List.setIfInBounds_toArray, List.set_cons_zero, List.set_cons_succ]
              refine wpAnyH_take (i := 19) (v := undef) (by simp only [List.getElem?_toArray, List.getElem?_cons_succ, List.getElem?_cons_zero]; rfl) (by kernel_rfl) (by kernel_rfl) (by kernel_rfl) (by intro _ _ _ h; exact h) (Or.inr ⟨by rfl, rfl⟩) hHeld ?_
              try simp only [Act.put, List.setIfInBounds_toArray, List.set_cons_zero, List.set_cons_succ]
              refine wpAnyH_take (i := 20) (v := undef) (by simp only [List.getElem?_toArray, List.getElem?_cons_succ, List.getElem?_cons_zero]; rfl) (by kernel_rfl) (by kernel_rfl) (by kernel_rfl) (by intro _ _ _ h; exact h) (Or.inr ⟨by rfl, rfl⟩) hHeld ?_
              try simp only [Act.put, List.setIfInBounds_toArray, List.set_cons_zero, List.set_cons_succ]
              refine wpAnyH_take (i := 21) (v := undef) (by simp only [List.getElem?_toArray, List.getElem?_cons_succ, List.getElem?_cons_zero]; rfl) (by kernel_rfl) (by kernel_rfl) (by kernel_rfl) (by intro _ _ _ h; exact h) (Or.inr ⟨by rfl, rfl⟩) hHeld ?_
              try simp only [Act.put, List.setIfInBounds_toArray, List.set_cons_zero, List.set_cons_succ]
              refine wpAnyH_take (i := 22) (v := undef) (by simp only [List.getElem?_toArray, List.getElem?_cons_succ, List.getElem?_cons_zero]; rfl) (by kernel_rfl) (by kernel_rfl) (by kernel_rfl) (by intro _ _ _ h; exact h) (Or.inr ⟨by rfl, rfl⟩) hHeld ?_
              try simp only [Act.put, List.setIfInBounds_toArray, List.set_cons_zero, List.set_cons_succ]
              refine wpAnyH_take (i := 23) (v := undef) (by simp only [List.getElem?_toArray, List.getElem?_cons_succ, List.getElem?_cons_zero]; rfl) (by kernel_rfl) (by kernel_rfl) (by kernel_rfl) (by intro _ _ _ h; exact h) (Or.inr ⟨by rfl, rfl⟩) hHeld ?_
              try simp only [Act.put, List.setIfInBounds_toArray, List.set_cons_zero, List.set_cons_succ]
              refine wpAnyH_take (i := 24) (v := undef) (by simp only [List.getElem?_toArray, List.getElem?_cons_succ, List.getElem?_cons_zero]; rfl) (by kernel_rfl) (by kernel_rfl) (by kernel_rfl) (by intro _ _ _ h; exact h) (Or.inr ⟨by rfl, rfl⟩) hHeld ?_
              try simp only [Act.put, List.setIfInBounds_toArray, List.set_cons_zero, List.set_cons_succ]
              refine wpAnyH_take (i := 25) (v := undef) (by simp only [List.getElem?_toArray, List.getElem?_cons_succ, List.getElem?_cons_zero]; rfl) (by kernel_rfl) (by kernel_rfl) (by kernel_rfl) (by intro _ _ _ h; exact h) (Or.inr ⟨by rfl, rfl⟩) hHeld ?_
              try simp only [Act.put, List.setIfInBounds_toArray, List.set_cons_zero, List.set_cons_succ]
              refine wpAnyH_take (i := 26) (v := undef) (by simp only [List.getElem?_toArray, List.getElem?_cons_succ, List.getElem?_cons_zero]; rfl) (by kernel_rfl) (by kernel_rfl) (by kernel_rfl) (by intro _ _ _ h; exact h) (Or.inr ⟨by rfl, rfl⟩) hHeld ?_
              try simp only [Act.put, List.setIfInBounds_toArray, List.set_cons_zero, List.set_cons_succ]
              refine wpAnyH_take (i := 27) (v := undef) (by simp only [List.getElem?_toArray, List.getElem?_cons_succ, List.getElem?_cons_zero]; rfl) (by kernel_rfl) (by kernel_rfl) (by kernel_rfl) (by intro _ _ _ h; exact h) (Or.inr ⟨by rfl, rfl⟩) hHeld ?_
              try simp only [Act.put, List.setIfInBounds_toArray, List.set_cons_zero, List.set_cons_succ]
              refine wpAnyH_take (i := 28) (v := undef) (by simp only [List.getElem?_toArray, List.getElem?_cons_succ, List.getElem?_cons_zero]; rfl) (by kernel_rfl) (by kernel_rfl) (by kernel_rfl) (by intro _ _ _ h; exact h) (Or.inr ⟨by rfl, rfl⟩) hHeld ?_
              try simp only [Act.put, List.setIfInBounds_toArray, List.set_cons_zero, List.set_cons_succ]
              refine wpAnyH_take (i := 29) (v := undef) (by simp only [List.getElem?_toArray, List.getElem?_cons_succ, List.getElem?_cons_zero]; rfl) (by kernel_rfl) (by kernel_rfl) (by kernel_rfl) (by intro _ _ _ h; exact h) (Or.inr ⟨by rfl, rfl⟩) hHeld ?_
              try simp only [Act.put, List.setIfInBounds_toArray, List.set_cons_zero, List.set_cons_succ]
              refine wpAnyH_take (i := 30) (v := undef) (by simp only [List.getElem?_toArray, List.getElem?_cons_succ, List.getElem?_cons_zero]; rfl) (by kernel_rfl) (by kernel_rfl) (by kernel_rfl) (by intro _ _ _ h; exact h) (Or.inr ⟨by rfl, rfl⟩) hHeld ?_
              try simp only [Act.put, List.setIfInBounds_toArray, List.set_cons_zero, List.set_cons_succ]
              refine wpAnyH_take (i := 31) (v := undef) (by simp only [List.getElem?_toArray, List.getElem?_cons_succ, List.getElem?_cons_zero]; rfl) (by kernel_rfl) (by kernel_rfl) (by kernel_rfl) (by intro _ _ _ h; exact h) (Or.inr ⟨by rfl, rfl⟩) hHeld ?_
              try simp only [Act.put, List.setIfInBounds_toArray, List.set_cons_zero, List.set_cons_succ]
              refine wpAnyH_take (i := 32) (v := undef) (by simp only [List.getElem?_toArray, List.getElem?_cons_succ, List.getElem?_cons_zero]; rfl) (by kernel_rfl) (by kernel_rfl) (by kernel_rfl) (by intro _ _ _ h; exact h) (Or.inr ⟨by rfl, rfl⟩) hHeld ?_
              try simp only [Act.put, List.setIfInBounds_toArray, List.set_cons_zero, List.set_cons_succ]
              refine wpAnyH_take (i := 33) (v := undef) (by simp only [List.getElem?_toArray, List.getElem?_cons_succ, List.getElem?_cons_zero]; rfl) (by kernel_rfl) (by kernel_rfl) (by kernel_rfl) (by intro _ _ _ h; exact h) (Or.inr ⟨by rfl, rfl⟩) hHeld ?_
              try simp only [Act.put, List.setIfInBounds_toArray, List.set_cons_zero, List.set_cons_succ]
              refine wpAnyH_take (i := 34) (v := undef) (by simp only [List.getElem?_toArray, List.getElem?_cons_succ, List.getElem?_cons_zero]; rfl) (by kernel_rfl) (by kernel_rfl) (by kernel_rfl) (by intro _ _ _ h; exact h) (Or.inr ⟨by rfl, rfl⟩) hHeld ?_
              try simp only [Act.put, List.setIfInBounds_toArray, List.set_cons_zero, List.set_cons_succ]
              refine wpAnyH_take (i := 35) (v := undef) (by simp only [List.getElem?_toArray, List.getElem?_cons_succ, List.getElem?_cons_zero]; rfl) (by kernel_rfl) (by kernel_rfl) (by kernel_rfl) (by intro _ _ _ h; exact h) (Or.inr ⟨by rfl, rfl⟩) hHeld ?_
              try simp only [Act.put, List.setIfInBounds_toArray, List.set_cons_zero, List.set_cons_succ]
              refine wpAnyH_take (i := 36) (v := undef) (by simp only [List.getElem?_toArray, List.getElem?_cons_succ, List.getElem?_cons_zero]; rfl) (by kernel_rfl) (by kernel_rfl) (by kernel_rfl) (by intro _ _ _ h; exact h) (Or.inr ⟨by rfl, rfl⟩) hHeld ?_
              try simp only [Act.put, List.setIfInBounds_toArray, List.set_cons_zero, List.set_cons_succ]
              refine wpAnyH_take (i := 37) (v := ?_) (by simp only [List.getElem?_toArray, List.getElem?_cons_succ, List.getElem?_cons_zero]; rfl) (by kernel_rfl) (by kernel_rfl) (by kernel_rfl) (by intro _ _ _ h; exact h) (Or.inl ⟨by rfl, ?_⟩) hHeld ?_
              rotate_left 1
              · intro wq hSw
                try dsimp only at hSw
                go_simp
                try (with_reducible rfl)
              try simp only [Act.put, List.setIfInBounds_toArray, List.set_cons_zero, List.set_cons_succ]
              refine wpAnyH_done (by kernel_rfl) ?_ _
              go_wp2
              go_roundg g'
              case measure => omega
              case rel => exact ⟨j + 1, by have := hj.out; omega, by first | rfl | (simp; done) | (simp; exact wrap64_small (by omega) (by omega)), br.trans (bd.mono br.size)⟩
            · skip
              clear hj
              obtain ⟨o9, ho9⟩ : ∃ x : Int, Hid ((openF Zz : Int) = x) := ⟨_, rfl⟩
              have hop9 : Hid (decide (o9 ≤ 3) = decide (openF Zz ≤ 3)) := by
                show _ = _
                rw [← ho9.out]
                exact decide_eq_decide.2 (by omega)
              cases op
              · skip
                obtain ⟨Bnq0, Bnq1, Bnq2, Bnq3, Bnq4, Bnr0, Bnr1, Bnr2, Bnr3, Bnr4⟩ := Bn.five
                have Bnl := Bn.lt
                go_wp2_with fail
                clear Bnq0 Bnq1 Bnq2 Bnq3 Bnq4 Bnr0 Bnr1 Bnr2 Bnr3 Bnr4
                clear Bdq0 Bdq1 Bdq2 Bdq3 Bdq4 Bdr0 Bdr1 Bdr2 Bdr3 Bdr4
                have hC := dOpen_at size Lf Dn Dw A5 n n Zz o9 wr zn ho9.out
                refine hC.mono ?_
                clear hC
                rintro e w9 ⟨rfl, b9⟩
                replace Bd := Bd.under b9
                replace Bn := Bn.under b9
                replace zx := zx.below b9
                replace zn := zn.below b9
                replace bb := bb.trans (b9.mono bb.size)
                obtain ⟨Bnq0, Bnq1, Bnq2, Bnq3, Bnq4, Bnr0, Bnr1, Bnr2, Bnr3, Bnr4⟩ := Bn.five
                have Bnl := Bn.lt
                obtain ⟨Bdq0, Bdq1, Bdq2, Bdq3, Bdq4, Bdr0, Bdr1, Bdr2, Bdr3, Bdr4⟩ := Bd.five
                have Bdl := Bd.lt
                go_wp2
                go_roundg g
                case measure => omega
                case rel =>
                  refine ⟨k + 1, by have := hk.out; omega, by first | rfl | (simp; done), A5, n, Zz, Lf, Dn, Dw, _, rfl, hc9, by first | exact hop9 | exact hop9t, hlf9, ((((Bd.set 0 _).set 1 _).set 2 _).set 3 _).set 4 _, ?_, ((((bb.setCell (Nat.le_refl _) _).setCell (Nat.le_refl _) _).setCell (Nat.le_refl _) _).setCell (Nat.le_refl _) _).setCell (Nat.le_refl _) _⟩
                  exact (((((zn.far (a := ⟨w.heap.size, 0, none⟩) (fun h => h.1 rfl) _).far (a := ⟨w.heap.size, 1, none⟩) (fun h => h.1 rfl) _).far (a := ⟨w.heap.size, 2, none⟩) (fun h => h.1 rfl) _).far (a := ⟨w.heap.size, 3, none⟩) (fun h => h.1 rfl) _).far (a := ⟨w.heap.size, 4, none⟩) (fun h => h.1 rfl) _).imp (fun b _ h => h.1)
              · have ho3 : o9 ≤ 3 := by
                  have h1 := hO3.out (of_decide_eq_true hop.out.symm)
                  rw [← ho9.out]
                  omega
                have hop9t : Hid (true = decide (openF Zz ≤ 3)) := by
                  show true = _
                  rw [← hop9.out]
                  exact (decide_eq_true ho3).symm
                obtain ⟨Bnq0, Bnq1, Bnq2, Bnq3, Bnq4, Bnr0, Bnr1, Bnr2, Bnr3, Bnr4⟩ := Bn.five
                have Bnl := Bn.lt
                go_wp2_with fail
                clear Bnq0 Bnq1 Bnq2 Bnq3 Bnq4 Bnr0 Bnr1 Bnr2 Bnr3 Bnr4
                clear Bdq0 Bdq1 Bdq2 Bdq3 Bdq4 Bdr0 Bdr1 Bdr2 Bdr3 Bdr4
                have hC := dOpen_at size Lf Dn Dw A5 n n Zz o9 wr zn ho9.out
                refine hC.mono ?_
                clear hC
                rintro e w9 ⟨rfl, b9⟩
                replace Bd := Bd.under b9
                replace Bn := Bn.under b9
                replace zx := zx.below b9
                replace zn := zn.below b9
                replace bb := bb.trans (b9.mono bb.size)
                obtain ⟨Bnq0, Bnq1, Bnq2, Bnq3, Bnq4, Bnr0, Bnr1, Bnr2, Bnr3, Bnr4⟩ := Bn.five
                have Bnl := Bn.lt
                go_wp2_with fail
                clear Bnq0 Bnq1 Bnq2 Bnq3 Bnq4 Bnr0 Bnr1 Bnr2 Bnr3 Bnr4
                have hC := dOpen_at size Lf Dn Dw A5 n n Zz o9 w9 zn ho9.out
                refine hC.mono ?_
                clear hC
                rintro e w10 ⟨rfl, b10⟩
                replace Bd := Bd.under b10
                replace Bn := Bn.under b10
                replace zx := zx.below b10
                replace zn := zn.below b10
                replace bb := bb.trans (b10.mono bb.size)
                obtain ⟨Bnq0, Bnq1, Bnq2, Bnq3, Bnq4, Bnr0, Bnr1, Bnr2, Bnr3, Bnr4⟩ := Bn.five
                have Bnl := Bn.lt
                obtain ⟨Bdq0, Bdq1, Bdq2, Bdq3, Bdq4, Bdr0, Bdr1, Bdr2, Bdr3, Bdr4⟩ := Bd.five
                have Bdl := Bd.lt
                go_wp2
                go_roundg g
                case measure => omega
                case rel =>
                  refine ⟨k + 1, by have := hk.out; omega, by first | rfl | (simp; done), A5, n, Zz, Lf, Dn, Dw, _, rfl, hc9, by first | exact hop9 | exact hop9t, hlf9, ((((Bd.set 0 _).set 1 _).set 2 _).set 3 _).set 4 _, ?_, ((((bb.setCell (Nat.le_refl _) _).setCell (Nat.le_refl _) _).setCell (Nat.le_refl _) _).setCell (Nat.le_refl _) _).setCell (Nat.le_refl _) _⟩
                  exact (((((zn.far (a := ⟨w.heap.size, 0, none⟩) (fun h => h.1 rfl) _).far (a := ⟨w.heap.size, 1, none⟩) (fun h => h.1 rfl) _).far (a := ⟨w.heap.size, 2, none⟩) (fun h => h.1 rfl) _).far (a := ⟨w.heap.size, 3, none⟩) (fun h => h.1 rfl) _).far (a := ⟨w.heap.size, 4, none⟩) (fun h => h.1 rfl) _).imp (fun b _ h => h.1)
        · skip
          have h9b : (kd == 9) = false := by simp [h9]
          have h2b : (kd == 2) = false := by simp [h2]
          have h2c : (kd != 2) = true := by simp [h2]
          obtain ⟨Bdq0, Bdq1, Bdq2, Bdq3, Bdq4, Bdr0, Bdr1, Bdr2, Bdr3, Bdr4⟩ := Bd.five
          have Bdl := Bd.lt
          replace Bd := Bd.alloc (.cells #[.int .i64 size, .slice A2 n c2x, .int .i64 lf, .bool dw, .int .i64 dn] 25)
          replace zx := zx.alloc (.cells #[.int .i64 size, .slice A2 n c2x, .int .i64 lf, .bool dw, .int .i64 dn] 25)
          replace hbs := hbs.alloc (.cells #[.int .i64 size, .slice A2 n c2x, .int .i64 lf, .bool dw, .int .i64 dn] 25)
          replace sk := sk.alloc (.cells #[.int .i64 size, .slice A2 n c2x, .int .i64 lf, .bool dw, .int .i64 dn] 25)
          replace zw := zw.alloc (.cells #[.int .i64 size, .slice A2 n c2x, .int .i64 lf, .bool dw, .int .i64 dn] 25)
          replace bb := bb.alloc bb.size (.cells #[.int .i64 size, .slice A2 n c2x, .int .i64 lf, .bool dw, .int .i64 dn] 25)
          have Bw := Blk.new v1 #[.int .i64 size, .slice A2 n c2x, .int .i64 lf, .bool dw, .int .i64 dn] 25
          replace Bd := Bd.alloc (.cells #[.int .i64 0, .slice none 0 0, .int .i64 0, .bool false, .int .i64 0] 25)
          replace zx := zx.alloc (.cells #[.int .i64 0, .slice none 0 0, .int .i64 0, .bool false, .int .i64 0] 25)
          replace hbs := hbs.alloc (.cells #[.int .i64 0, .slice none 0 0, .int .i64 0, .bool false, .int .i64 0] 25)
          replace sk := sk.alloc (.cells #[.int .i64 0, .slice none 0 0, .int .i64 0, .bool false, .int .i64 0] 25)
          replace zw := zw.alloc (.cells #[.int .i64 0, .slice none 0 0, .int .i64 0, .bool false, .int .i64 0] 25)
          replace Bw := Bw.alloc (.cells #[.int .i64 0, .slice none 0 0, .int .i64 0, .bool false, .int .i64 0] 25)
          replace bb := bb.alloc bb.size (.cells #[.int .i64 0, .slice none 0 0, .int .i64 0, .bool false, .int .i64 0] 25)
          have Bn := Blk.new (v1.alloc (.cells #[.int .i64 size, .slice A2 n c2x, .int .i64 lf, .bool dw, .int .i64 dn] 25)) #[.int .i64 0, .slice none 0 0, .int .i64 0, .bool false, .int .i64 0] 25
          simp only [World.size_alloc] at Bn
          go_wp2_with fail
          clear Bdq0 Bdq1 Bdq2 Bdq3 Bdq4 Bdr0 Bdr1 Bdr2 Bdr3 Bdr4
          generalize ((v1.alloc (.cells #[.int .i64 size, .slice A2 n c2x, .int .i64 lf, .bool dw, .int .i64 dn] 25)).alloc (.cells #[.int .i64 0, .slice none 0 0, .int .i64 0, .bool false, .int .i64 0] 25)) = v2 at *
          obtain ⟨kw, hkw⟩ : ∃ k, v1.heap.size = k := ⟨_, rfl⟩
          obtain ⟨kn, hkn⟩ : ∃ k, kw + 1 = k := ⟨_, rfl⟩
          simp only [hkw, hkn] at Bw Bn zx zw hdl1 ⊢
          clear hkw
          have c0 := d0
          have c1 := d1
          have c2 := d2
          have hab := hab2
          clear d0 d1 d2 hab2
          obtain ⟨Zz, hZz⟩ : ∃ x, Hid (ruZs size lf dw zs kd N bs = x) := ⟨_, rfl⟩
          obtain ⟨Lf, hLf⟩ : ∃ x, Hid (ruLf size lf dw zs = x) := ⟨_, rfl⟩
          obtain ⟨Dw, hDw⟩ : ∃ x, Hid (ruDw size lf dw zs = x) := ⟨_, rfl⟩
          obtain ⟨Dn, hDn⟩ : ∃ x, Hid (ruDn size lf dn dw zs = x) := ⟨_, rfl⟩
          obtain ⟨Er, hEr⟩ : ∃ x, Hid (ruEr size lf dw zs kd N bs = x) := ⟨_, rfl⟩
          have hc9 : Hid (devF size Zz = true) := by
            show _ = true
            rw [← hZz.out]
            exact dev_ru lf dw kd N bs hc.out
          have hO3 : Hid (openF zs ≤ 3 → openF Zz ≤ 3) := by
            intro h3
            rw [← hZz.out]
            exact (ok_ru lf dw kd N bs hc.out h3).2
          have hKq : Hid (∀ (i : Nat) (z : Zp), zs[i]? = some z → ∃ z', Zz[i]? = some z' ∧ Kq z z') := by
            show ∀ (i : Nat) (z : Zp), _
            rw [← hZz.out]
            exact keep_ru lf dw kd N bs hc.out h2
          have hlf9 : Lf < 9223372036854775808 := by
            rw [← hLf.out, ruLf]
            repeat' split
            all_goals omega
          have hnl := Bn.lt
          have hwl := Bd.lt
          refine region_join (α := Nat → Option Addr → Act) (R := fun T a w' => ∃ kv A5, a = T kv A5 ∧ Blk w' kv #[.int .i64 size, .slice A5 n n, .int .i64 Lf, .bool Dw, .int .i64 Dn] 25 ∧ Zs (fun b => v2.heap.size ≤ b ∧ b ≠ kv) w' A5 n n Zz ∧ v2.heap.size ≤ kv ∧ Below v2.heap.size v2 w') ?TYkd ?bodyYkd ?restYkd
          case bodyYkd =>
            refine wp_region_held_drew (S := fun w' => Below v2.heap.size v2 w') (by kernel_rfl) (Below.refl _ _).drew (fun hHeld => ?_)
            have b := hHeld
            generalize v2.drew = wd at *
            try simp only [Act.put, List.setIfInBounds_toArray, List.set_cons_zero, List.set_cons_succ]
            refine wpAnyH_take (i := 0) (v := ?_) (by simp only [List.getElem?_toArray, List.getElem?_cons_zero]; rfl) (by kernel_rfl) (by kernel_rfl) (by kernel_rfl) (by intro _ _ _ h; exact nomatch h.1) (Or.inl ⟨by rfl, ?_⟩) hHeld ?_
            rotate_left 1
            · intro wq hSw
              try dsimp only at hSw
              obtain ⟨x0, x1, x2, x3, x4, _⟩ := (Bd.under hSw).five
              go_simp
              try (with_reducible rfl)
            try simp only [Act.put, List.setIfInBounds_toArray, List.set_cons_zero, List.set_cons_succ]
            refine wpAnyH_take (i := 1) (v := ?_) (by simp only [List.getElem?_toArray, List.getElem?_cons_succ, List.getElem?_cons_zero]; rfl) (by kernel_rfl) (by kernel_rfl) (by kernel_rfl) (by intro _ _ _ h; exact nomatch h.1) (Or.inl ⟨by rfl, ?_⟩) hHeld ?_
            rotate_left 1
            · intro wq hSw
              try dsimp only at hSw
              go_simp
              try (with_reducible rfl)
            try simp only [Act.put, List.setIfInBounds_toArray, List.set_cons_zero, List.set_cons_succ]
            refine wpAnyH_take (i := 2) (v := ?_) (by simp only [List.getElem?_toArray, List.getElem?_cons_succ, List.getElem?_cons_zero]; rfl) (by kernel_rfl) (by kernel_rfl) (by kernel_rfl) (by intro _ _ _ h; exact nomatch h.1) (Or.inl ⟨by rfl, ?_⟩) hHeld ?_
            rotate_left 1
            · intro wq hSw
              try dsimp only at hSw
              go_simp
              try (with_reducible rfl)
            try simp only [Act.put, List.setIfInBounds_toArray, List.set_cons_zero, List.set_cons_succ]
            refine wpAnyH_take (i := 3) (v := ?_) (by simp only [List.getElem?_toArray, List.getElem?_cons_succ, List.getElem?_cons_zero]; rfl) (by kernel_rfl) (by kernel_rfl) (by kernel_rfl) (by intro _ _ _ h; exact nomatch h.1) (Or.inl ⟨by rfl, ?_⟩) hHeld ?_
            rotate_left 1
            · intro wq hSw
              try dsimp only at hSw
              go_simp
              try (with_reducible rfl)
            try simp only [Act.put, List.setIfInBounds_toArray, List.set_cons_zero, List.set_cons_succ]
            refine wpAnyH_take (i := 4) (v := ?_) (by simp only [List.getElem?_toArray, List.getElem?_cons_succ, List.getElem?_cons_zero]; rfl) (by kernel_rfl) (by kernel_rfl) (by kernel_rfl) (by intro _ _ _ h; exact nomatch h.1) (Or.inl ⟨by rfl, ?_⟩) hHeld ?_
            rotate_left 1
            · intro wq hSw
              try dsimp only at hSw
              have y0 := (hSw.cell hab).trans c0
              have y1 := (hSw.cell hab).trans c1
              have y2 := (hSw.cell hab).trans c2
              go_simp
              try (with_reducible rfl)
            try simp only [Act.put, List.setIfInBounds_toArray, List.set_cons_zero, List.set_cons_succ]
            refine wpAnyH_ready (rs := [5, 9]) (by kernel_rfl) (by simp) ?_
            refine AllReadyH.cons (by simp only [List.getElem?_toArray, List.getElem?_cons_succ, List.getElem?_cons_zero]; rfl) (fun K hK => ?_) (AllReadyH.cons (by simp only [List.getElem?_toArray, List.getElem?_cons_succ, List.getElem?_cons_zero]; rfl) (fun K hK => ?_) AllReadyH.nil)
            · skip
              have hC := dDo_at size lf dn dw A n c zs kd N Ab nb cb bs Lf Dn Dw Zz Er wd (zx.below b) hsm (hbs.below b) (by omega) hlf hLf.out hDn.out hDw.out hZz.out hEr.out
              go_simp
              refine hC.mono ?_
              rintro e w_5_1 ⟨A5, rfl, Y, bC⟩
              go_wp2_with fail
              have hbs := b.size
              replace Y := Y.imp (F' := fun x => v2.heap.size ≤ x) (fun x _ hx => by omega)
              clear hbs
              replace b := b.trans (bC.mono b.size)
              clear hC bC
              refine hK.out _ _ b (fun hHeld => ?_)
              clear hK K
              try simp only [Act.put, List.setIfInBounds_toArray, List.set_cons_zero, List.set_cons_succ]
              refine wpAnyH_take (i := 6) (v := ?_) (by simp only [List.getElem?_toArray, List.getElem?_cons_succ, List.getElem?_cons_zero]; rfl) (by kernel_rfl) (by kernel_rfl) (by kernel_rfl) (by intro _ _ _ h; exact nomatch h.1) (Or.inl ⟨by rfl, ?_⟩) hHeld ?_
              rotate_left 1
              · intro wq hSw
                try dsimp only at hSw
                go_simp
                try (with_reducible rfl)
              try simp only [Act.put, List.setIfInBounds_toArray, List.set_cons_zero, List.set_cons_succ]
              refine wpAnyH_take (i := 7) (v := ?_) (by simp only [List.getElem?_toArray, List.getElem?_cons_succ, List.getElem?_cons_zero]; rfl) (by kernel_rfl) (by kernel_rfl) (by kernel_rfl) (by intro _ _ _ h; exact nomatch h.1) (Or.inl ⟨by rfl, ?_⟩) hHeld ?_
              rotate_left 1
              · intro wq hSw
                try dsimp only at hSw
                go_simp
                try (with_reducible rfl)
              try simp only [Act.put, List.setIfInBounds_toArray, List.set_cons_zero, List.set_cons_succ]
              refine wpAnyH_take (i := 8) (v := ?_) (by simp only [List.getElem?_toArray, List.getElem?_cons_succ, List.getElem?_cons_zero]; rfl) (by kernel_rfl) (by kernel_rfl) (by kernel_rfl) (by intro _ _ _ h; exact nomatch h.1) (Or.inl ⟨by rfl, ?_⟩) hHeld ?_
              rotate_left 1
              · intro wq hSw
                try dsimp only at hSw
                go_simp
                try (with_reducible rfl)
              try simp only [Act.put, List.setIfInBounds_toArray, List.set_cons_zero, List.set_cons_succ]
              refine wpAnyH_ready (rs := [9]) (by kernel_rfl) (by simp) ?_
              refine AllReadyH.cons (by simp only [List.getElem?_toArray, List.getElem?_cons_succ, List.getElem?_cons_zero]; rfl) (fun K hK => ?_) AllReadyH.nil
              obtain ⟨kv, hkv⟩ : ∃ k, w_5_1.heap.size = k := ⟨_, rfl⟩
              go_simp
              try simp only [hkv]
              have V := Blk.new w_5_1 #[.int .i64 0, .slice none 0 0, .int .i64 0, .bool false, .int .i64 0] 25
              rw [hkv] at V
              have hcv : v2.heap.size ≤ kv := by rw [← hkv]; exact b.size
              replace Y := (Y.imp (F' := fun x => v2.heap.size ≤ x ∧ x ≠ kv) (fun x hx hf => ⟨hf, by omega⟩)).alloc (.cells #[.int .i64 0, .slice none 0 0, .int .i64 0, .bool false, .int .i64 0] 25)
              replace b := b.alloc b.size (.cells #[.int .i64 0, .slice none 0 0, .int .i64 0, .bool false, .int .i64 0] 25)
              generalize w_5_1.alloc (.cells #[.int .i64 0, .slice none 0 0, .int .i64 0, .bool false, .int .i64 0] 25) = w_9_2 at *
              refine hK.out _ _ b (fun hHeld => ?_)
              clear hK K
              try simp only [Act.put, List.setIfInBounds_toArray, List.set_cons_zero, List.set_cons_succ]
              refine wpAnyH_ready (rs := [10]) (by kernel_rfl) (by simp) ?_
              refine AllReadyH.cons (by simp only [List.getElem?_toArray, List.getElem?_cons_succ, List.getElem?_cons_zero]; rfl) (fun K hK => ?_) AllReadyH.nil
              obtain ⟨q0, q1, q2, q3, q4, i0', i1', i2', i3', i4'⟩ := V.five
              go_simp
              have V2 := (((((V.set 0 (.int .i64 size)).set 1 (.slice A5 n n)).set 2 (.int .i64 Lf)).set 3 (.bool Dw)).set 4 (.int .i64 Dn))
              simp only [List.setIfInBounds_toArray, List.set_cons_zero, List.set_cons_succ] at V2
              have Y2 := (((((Y.far (a := ⟨kv, 0, none⟩) (fun h => h.2 rfl) (.int .i64 size)).far (a := ⟨kv, 1, none⟩) (fun h => h.2 rfl) (.slice A5 n n)).far (a := ⟨kv, 2, none⟩) (fun h => h.2 rfl) (.int .i64 Lf)).far (a := ⟨kv, 3, none⟩) (fun h => h.2 rfl) (.bool Dw)).far (a := ⟨kv, 4, none⟩) (fun h => h.2 rfl) (.int .i64 Dn))
              have b2 := (((((b.setCell (p := ⟨kv, 0, none⟩) hcv (.int .i64 size)).setCell (p := ⟨kv, 1, none⟩) hcv (.slice A5 n n)).setCell (p := ⟨kv, 2, none⟩) hcv (.int .i64 Lf)).setCell (p := ⟨kv, 3, none⟩) hcv (.bool Dw)).setCell (p := ⟨kv, 4, none⟩) hcv (.int .i64 Dn))
              clear q0 q1 q2 q3 q4 i0' i1' i2' i3' i4'
              clear V Y b
              generalize (((((w_9_2.setCell ⟨kv, 0, none⟩ (.int .i64 size)).setCell ⟨kv, 1, none⟩ (.slice A5 n n)).setCell ⟨kv, 2, none⟩ (.int .i64 Lf)).setCell ⟨kv, 3, none⟩ (.bool Dw)).setCell ⟨kv, 4, none⟩ (.int .i64 Dn)) = w_10_3 at *
              have V := V2
              have Y := Y2
              have b := b2
              clear V2 Y2 b2
              refine hK.out _ _ b (fun hHeld => ?_)
              clear hK K
              try simp only [Act.put, List.setIfInBounds_toArray, List.set_cons_zero, List.set_cons_succ]
              refine wpAnyH_take (i := 11) (v := ?_) (by simp only [List.getElem?_toArray, List.getElem?_cons_succ, List.getElem?_cons_zero]; rfl) (by kernel_rfl) (by kernel_rfl) (by kernel_rfl) (by intro _ _ _ h; exact nomatch h.1) (Or.inl ⟨by rfl, ?_⟩) hHeld ?_
              rotate_left 1
              · intro wq hSw
                try dsimp only at hSw
                go_simp
                try (with_reducible rfl)
              try simp only [Act.put, List.setIfInBounds_toArray, List.set_cons_zero, List.set_cons_succ]
              refine wpAnyH_done (by kernel_rfl) ?_ _
              refine ⟨rfl, kv, A5, ?_, V, Y, hcv, b⟩
              with_reducible rfl
            · skip
              obtain ⟨kv, hkv⟩ : ∃ k, wd.heap.size = k := ⟨_, rfl⟩
              go_simp
              try simp only [hkv]
              have V := Blk.new wd #[.int .i64 0, .slice none 0 0, .int .i64 0, .bool false, .int .i64 0] 25
              rw [hkv] at V
              have hcv : v2.heap.size ≤ kv := by rw [← hkv]; exact b.size
              replace b := b.alloc b.size (.cells #[.int .i64 0, .slice none 0 0, .int .i64 0, .bool false, .int .i64 0] 25)
              generalize wd.alloc (.cells #[.int .i64 0, .slice none 0 0, .int .i64 0, .bool false, .int .i64 0] 25) = w_9_1 at *
              refine hK.out _ _ b (fun hHeld => ?_)
              clear hK K
              try simp only [Act.put, List.setIfInBounds_toArray, List.set_cons_zero, List.set_cons_succ]
              refine wpAnyH_ready (rs := [5]) (by kernel_rfl) (by simp) ?_
              refine AllReadyH.cons (by simp only [List.getElem?_toArray, List.getElem?_cons_succ, List.getElem?_cons_zero]; rfl) (fun K hK => ?_) AllReadyH.nil
              have hC := dDo_at size lf dn dw A n c zs kd N Ab nb cb bs Lf Dn Dw Zz Er w_9_1 (zx.below b) hsm (hbs.below b) (by omega) hlf hLf.out hDn.out hDw.out hZz.out hEr.out
              go_simp
              refine hC.mono ?_
              rintro e w_5_2 ⟨A5, rfl, Y, bC⟩
              go_wp2_with fail
              have hbs := b.size
              have hvl := V.lt
              replace Y := Y.imp (F' := fun x => v2.heap.size ≤ x ∧ x ≠ kv) (fun x _ hx => ⟨by omega, by omega⟩)
              clear hbs hvl
              replace V := V.under bC
              replace b := b.trans (bC.mono b.size)
              clear hC bC
              refine hK.out _ _ b (fun hHeld => ?_)
              clear hK K
              try simp only [Act.put, List.setIfInBounds_toArray, List.set_cons_zero, List.set_cons_succ]
              refine wpAnyH_take (i := 6) (v := ?_) (by simp only [List.getElem?_toArray, List.getElem?_cons_succ, List.getElem?_cons_zero]; rfl) (by kernel_rfl) (by kernel_rfl) (by kernel_rfl) (by intro _ _ _ h; exact nomatch h.1) (Or.inl ⟨by rfl, ?_⟩) hHeld ?_
              rotate_left 1
              · intro wq hSw
                try dsimp only at hSw
                go_simp
                try (with_reducible rfl)
              try simp only [Act.put, List.setIfInBounds_toArray, List.set_cons_zero, List.set_cons_succ]
              refine wpAnyH_take (i := 7) (v := ?_) (by simp only [List.getElem?_toArray, List.getElem?_cons_succ, List.getElem?_cons_zero]; rfl) (by kernel_rfl) (by kernel_rfl) (by kernel_rfl) (by intro _ _ _ h; exact nomatch h.1) (Or.inl ⟨by rfl, ?_⟩) hHeld ?_
              rotate_left 1
              · intro wq hSw
                try dsimp only at hSw
                go_simp
                try (with_reducible rfl)
              try simp only [Act.put, List.setIfInBounds_toArray, List.set_cons_zero, List.set_cons_succ]
              refine wpAnyH_take (i := 8) (v := ?_) (by simp only [List.getElem?_toArray, List.getElem?_cons_succ, List.getElem?_cons_zero]; rfl) (by kernel_rfl) (by kernel_rfl) (by kernel_rfl) (by intro _ _ _ h; exact nomatch h.1) (Or.inl ⟨by rfl, ?_⟩) hHeld ?_
              rotate_left 1
              · intro wq hSw
                try dsimp only at hSw
                go_simp
                try (with_reducible rfl)
              try simp only [Act.put, List.setIfInBounds_toArray, List.set_cons_zero, List.set_cons_succ]
              refine wpAnyH_ready (rs := [10]) (by kernel_rfl) (by simp) ?_
              refine AllReadyH.cons (by simp only [List.getElem?_toArray, List.getElem?_cons_succ, List.getElem?_cons_zero]; rfl) (fun K hK => ?_) AllReadyH.nil
              obtain ⟨q0, q1, q2, q3, q4, i0', i1', i2', i3', i4'⟩ := V.five
              go_simp
              have V2 := (((((V.set 0 (.int .i64 size)).set 1 (.slice A5 n n)).set 2 (.int .i64 Lf)).set 3 (.bool Dw)).set 4 (.int .i64 Dn))
              simp only [List.setIfInBounds_toArray, List.set_cons_zero, List.set_cons_succ] at V2
              have Y2 := (((((Y.far (a := ⟨kv, 0, none⟩) (fun h => h.2 rfl) (.int .i64 size)).far (a := ⟨kv, 1, none⟩) (fun h => h.2 rfl) (.slice A5 n n)).far (a := ⟨kv, 2, none⟩) (fun h => h.2 rfl) (.int .i64 Lf)).far (a := ⟨kv, 3, none⟩) (fun h => h.2 rfl) (.bool Dw)).far (a := ⟨kv, 4, none⟩) (fun h => h.2 rfl) (.int .i64 Dn))
              have b2 := (((((b.setCell (p := ⟨kv, 0, none⟩) hcv (.int .i64 size)).setCell (p := ⟨kv, 1, none⟩) hcv (.slice A5 n n)).setCell (p := ⟨kv, 2, none⟩) hcv (.int .i64 Lf)).setCell (p := ⟨kv, 3, none⟩) hcv (.bool Dw)).setCell (p := ⟨kv, 4, none⟩) hcv (.int .i64 Dn))
              clear q0 q1 q2 q3 q4 i0' i1' i2' i3' i4'
              clear V Y b
              generalize (((((w_5_2.setCell ⟨kv, 0, none⟩ (.int .i64 size)).setCell ⟨kv, 1, none⟩ (.slice A5 n n)).setCell ⟨kv, 2, none⟩ (.int .i64 Lf)).setCell ⟨kv, 3, none⟩ (.bool Dw)).setCell ⟨kv, 4, none⟩ (.int .i64 Dn)) = w_10_3 at *
              have V := V2
              have Y := Y2
              have b := b2
              clear V2 Y2 b2
              refine hK.out _ _ b (fun hHeld => ?_)
              clear hK K
              try simp only [Act.put, List.setIfInBounds_toArray, List.set_cons_zero, List.set_cons_succ]
              refine wpAnyH_take (i := 11) (v := ?_) (by simp only [List.getElem?_toArray, List.getElem?_cons_succ, List.getElem?_cons_zero]; rfl) (by kernel_rfl) (by kernel_rfl) (by kernel_rfl) (by intro _ _ _ h; exact nomatch h.1) (Or.inl ⟨by rfl, ?_⟩) hHeld ?_
              rotate_left 1
              · intro wq hSw
                try dsimp only at hSw
                go_simp
                try (with_reducible rfl)
              try simp only [Act.put, List.setIfInBounds_toArray, List.set_cons_zero, List.set_cons_succ]
              refine wpAnyH_done (by kernel_rfl) ?_ _
              refine ⟨rfl, kv, A5, ?_, V, Y, hcv, b⟩
              with_reducible rfl
          rintro a w5 ⟨kv, A5, rfl, V, Y, hkv, b5⟩
          try dsimp only
          replace c0 := (b5.cell hab).trans c0
          replace hab := Nat.lt_of_lt_of_le hab b5.size
          have zn := Y.imp (F' := fun b => b ≠ w.heap.size ∧ b ≠ kn) (fun b hb hf => ⟨by have := hf.1; omega, by have := hf.1; omega⟩)
          clear Y hbs sk c1 c2
          replace Bd := Bd.under b5
          replace Bw := Bw.under b5
          replace Bn := Bn.under b5
          replace zx := zx.below b5
          replace zw := zw.below b5
          replace bb := bb.trans (b5.mono bb.size)
          have hvn : ¬ kv = kn := by omega
          have hvn2 : ¬ kn = kv := by omega
          have hwn : w.heap.size ≤ kn := by omega
          have hBn := (((((Bn.set 0 (.int .i64 size)).set 1 (.slice A5 n n)).set 2 (.int .i64 Lf)).set 3 (.bool Dw)).set 4 (.int .i64 Dn))
          simp only [List.setIfInBounds_toArray, List.set_cons_zero, List.set_cons_succ] at hBn
          have hBd := (((((Bd.far (a := ⟨kn, 0, none⟩) (by simp; omega) (.int .i64 size)).far (a := ⟨kn, 1, none⟩) (by simp; omega) (.slice A5 n n)).far (a := ⟨kn, 2, none⟩) (by simp; omega) (.int .i64 Lf)).far (a := ⟨kn, 3, none⟩) (by simp; omega) (.bool Dw)).far (a := ⟨kn, 4, none⟩) (by simp; omega) (.int .i64 Dn))
          have hBw := (((((Bw.far (a := ⟨kn, 0, none⟩) (by simp; omega) (.int .i64 size)).far (a := ⟨kn, 1, none⟩) (by simp; omega) (.slice A5 n n)).far (a := ⟨kn, 2, none⟩) (by simp; omega) (.int .i64 Lf)).far (a := ⟨kn, 3, none⟩) (by simp; omega) (.bool Dw)).far (a := ⟨kn, 4, none⟩) (by simp; omega) (.int .i64 Dn))
          have hzx := (((((zx.far (a := ⟨kn, 0, none⟩) (fun h => by have := h.2; simp at this; omega) (.int .i64 size)).far (a := ⟨kn, 1, none⟩) (fun h => by have := h.2; simp at this; omega) (.slice A5 n n)).far (a := ⟨kn, 2, none⟩) (fun h => by have := h.2; simp at this; omega) (.int .i64 Lf)).far (a := ⟨kn, 3, none⟩) (fun h => by have := h.2; simp at this; omega) (.bool Dw)).far (a := ⟨kn, 4, none⟩) (fun h => by have := h.2; simp at this; omega) (.int .i64 Dn))
          have hzw := (((((zw.far (a := ⟨kn, 0, none⟩) (fun h => by simp at h; omega) (.int .i64 size)).far (a := ⟨kn, 1, none⟩) (fun h => by simp at h; omega) (.slice A5 n n)).far (a := ⟨kn, 2, none⟩) (fun h => by simp at h; omega) (.int .i64 Lf)).far (a := ⟨kn, 3, none⟩) (fun h => by simp at h; omega) (.bool Dw)).far (a := ⟨kn, 4, none⟩) (fun h => by simp at h; omega) (.int .i64 Dn))
          have hzn := (((((zn.far (a := ⟨kn, 0, none⟩) (fun h => h.2 rfl) (.int .i64 size)).far (a := ⟨kn, 1, none⟩) (fun h => h.2 rfl) (.slice A5 n n)).far (a := ⟨kn, 2, none⟩) (fun h => h.2 rfl) (.int .i64 Lf)).far (a := ⟨kn, 3, none⟩) (fun h => h.2 rfl) (.bool Dw)).far (a := ⟨kn, 4, none⟩) (fun h => h.2 rfl) (.int .i64 Dn))
          have hbb := (((((bb.setCell (p := ⟨kn, 0, none⟩) hwn (.int .i64 size)).setCell (p := ⟨kn, 1, none⟩) hwn (.slice A5 n n)).setCell (p := ⟨kn, 2, none⟩) hwn (.int .i64 Lf)).setCell (p := ⟨kn, 3, none⟩) hwn (.bool Dw)).setCell (p := ⟨kn, 4, none⟩) hwn (.int .i64 Dn))
          have hc0 : (((((w5.setCell ⟨kn, 0, none⟩ (.int .i64 size)).setCell ⟨kn, 1, none⟩ (.slice A5 n n)).setCell ⟨kn, 2, none⟩ (.int .i64 Lf)).setCell ⟨kn, 3, none⟩ (.bool Dw)).setCell ⟨kn, 4, none⟩ (.int .i64 Dn)).cell? ⟨ab, ao + k * 3, none⟩ = some (.int .i64 kd) := by
            have hne : ∀ i : Nat, (⟨ab, ao + k * 3, none⟩ : Addr).block ≠ (⟨kn, i, none⟩ : Addr).block := fun i => by simp; omega
            rw [cell_far _ _ (hne 4), cell_far _ _ (hne 3), cell_far _ _ (hne 2), cell_far _ _ (hne 1), cell_far _ _ (hne 0)]
            exact c0
          have hha : ab < (((((w5.setCell ⟨kn, 0, none⟩ (.int .i64 size)).setCell ⟨kn, 1, none⟩ (.slice A5 n n)).setCell ⟨kn, 2, none⟩ (.int .i64 Lf)).setCell ⟨kn, 3, none⟩ (.bool Dw)).setCell ⟨kn, 4, none⟩ (.int .i64 Dn)).heap.size := by simpa [World.setCell] using hab
          have hne1 : ¬ w.heap.size = kn := by omega
          have hne2 : ¬ kw = kn := by omega
          have hne3 : ¬ kn = w.heap.size := by omega
          have hne4 : ¬ kn = kw := by omega
          clear c0
          obtain ⟨Bdq0, Bdq1, Bdq2, Bdq3, Bdq4, Bdr0, Bdr1, Bdr2, Bdr3, Bdr4⟩ := Bd.five
          have Bdl := Bd.lt
          obtain ⟨Bwq0, Bwq1, Bwq2, Bwq3, Bwq4, Bwr0, Bwr1, Bwr2, Bwr3, Bwr4⟩ := Bw.five
          have Bwl := Bw.lt
          obtain ⟨Bnq0, Bnq1, Bnq2, Bnq3, Bnq4, Bnr0, Bnr1, Bnr2, Bnr3, Bnr4⟩ := Bn.five
          have Bnl := Bn.lt
          obtain ⟨Vq0, Vq1, Vq2, Vq3, Vq4, Vr0, Vr1, Vr2, Vr3, Vr4⟩ := V.five
          have Vl := V.lt
          go_wp2_with fail
          clear Bdq0 Bdq1 Bdq2 Bdq3 Bdq4 Bdr0 Bdr1 Bdr2 Bdr3 Bdr4
          clear Bwq0 Bwq1 Bwq2 Bwq3 Bwq4 Bwr0 Bwr1 Bwr2 Bwr3 Bwr4
          clear Bnq0 Bnq1 Bnq2 Bnq3 Bnq4 Bnr0 Bnr1 Bnr2 Bnr3 Bnr4
          clear Vq0 Vq1 Vq2 Vq3 Vq4 Vr0 Vr1 Vr2 Vr3 Vr4
          clear Bd Bw Bn zx zw zn bb hab
          generalize (((((w5.setCell ⟨kn, 0, none⟩ (.int .i64 size)).setCell ⟨kn, 1, none⟩ (.slice A5 n n)).setCell ⟨kn, 2, none⟩ (.int .i64 Lf)).setCell ⟨kn, 3, none⟩ (.bool Dw)).setCell ⟨kn, 4, none⟩ (.int .i64 Dn)) = x1 at *
          have Bd := hBd
          have Bw := hBw
          have Bn := hBn
          have zx := hzx
          have zw := hzw
          have zn := hzn
          have bb := hbb
          have c0 := hc0
          have hab := hha
          clear hBd hBw hBn hzx hzw hzn hbb hc0 hha
          have hC := refSame4_eq size lf dn dw A n c A2 c2x zs x1 zx zw (by omega)
          refine hC.mono ?_
          clear hC
          rintro e u1 ⟨rfl, b6⟩
          replace Bd := Bd.under b6
          replace Bw := Bw.under b6
          replace Bn := Bn.under b6
          replace zx := zx.below b6
          replace zw := zw.below b6
          replace zn := zn.below b6
          replace bb := bb.trans (b6.mono bb.size)
          replace c0 := (b6.cell hab).trans c0
          replace hab := Nat.lt_of_lt_of_le hab b6.size
          clear zw Bw
          obtain ⟨Bnq0, Bnq1, Bnq2, Bnq3, Bnq4, Bnr0, Bnr1, Bnr2, Bnr3, Bnr4⟩ := Bn.five
          have Bnl := Bn.lt
          go_wp2_with fail
          clear Bnq0 Bnq1 Bnq2 Bnq3 Bnq4 Bnr0 Bnr1 Bnr2 Bnr3 Bnr4
          have hC := dCheck_at size Lf Dn Dw A5 n n Zz true u1 zn hc9.out
          refine hC.mono ?_
          clear hC
          rintro e u2 ⟨rfl, b7⟩
          replace Bd := Bd.under b7
          replace Bn := Bn.under b7
          replace zx := zx.below b7
          replace zn := zn.below b7
          replace bb := bb.trans (b7.mono bb.size)
          replace c0 := (b7.cell hab).trans c0
          replace hab := Nat.lt_of_lt_of_le hab b7.size
          obtain ⟨Bdq0, Bdq1, Bdq2, Bdq3, Bdq4, Bdr0, Bdr1, Bdr2, Bdr3, Bdr4⟩ := Bd.five
          have Bdl := Bd.lt
          obtain ⟨Bnq0, Bnq1, Bnq2, Bnq3, Bnq4, Bnr0, Bnr1, Bnr2, Bnr3, Bnr4⟩ := Bn.five
          have Bnl := Bn.lt
          go_wp2_with fail
          clear Bdq0 Bdq1 Bdq2 Bdq3 Bdq4 Bdr0 Bdr1 Bdr2 Bdr3 Bdr4
          clear Bnq0 Bnq1 Bnq2 Bnq3 Bnq4 Bnr0 Bnr1 Bnr2 Bnr3 Bnr4
          go_loopg [15] n (fun g i wr => ∃ j : Nat, j + g = n ∧ i = .int .i64 (j : Int) ∧ Below u2.heap.size u2 wr)
          case atStart => exact ⟨0, by omega, rfl, Below.refl _ _⟩
          case round =>
            obtain ⟨j, hj, rfl, br⟩ := hrel
            replace Bd := Bd.under br
            replace Bn := Bn.under br
            replace zx := zx.below br
            replace zn := zn.below br
            replace bb := bb.trans (br.mono bb.size)
            replace c0 := (br.cell hab).trans c0
            replace hab := Nat.lt_of_lt_of_le hab br.size
            obtain ⟨Bdq0, Bdq1, Bdq2, Bdq3, Bdq4, Bdr0, Bdr1, Bdr2, Bdr3, Bdr4⟩ := Bd.five
            have Bdl := Bd.lt
            by_cases hltj : (j : Int) < (n : Int)
            · skip
              obtain ⟨g', rfl⟩ : ∃ g', gk = g' + 1 := ⟨gk - 1, by omega⟩
              obtain ⟨gb, o, z, Ai, ci, rfl, _, hg, hz, e0, e1, e2, e3, hSz, _⟩ := zx.at_ (show j < n by omega)
              obtain ⟨gx, ox, zy, Ay, cy, rfl, _, hgx, hzy, f0, f1, f2, f3, hSy, _⟩ := zn.at_ (show j < n by omega)
              have hcp := zx.cap
              have hcq := zn.cap
              replace hj : Hid _ := hj
              have hchk := chk_all ((dev_parts.1 hc.out).2 z (List.mem_of_getElem? hz))
              obtain ⟨m, hm⟩ : ∃ m : Nat, z.la = (m : Int) := ⟨z.la.toNat, by omega⟩
              have hml : m ≤ z.l.length := by omega
              clear hchk
              rw [hm] at e3
              have hkq : m ≤ zy.l.length ∧ zy.l.take m = z.l.take m := by
                obtain ⟨z', h1, h2⟩ := hKq.out j z hz
                rw [hzy] at h1
                cases h1
                unfold Kq at h2
                rw [hm, Int.toNat_natCast] at h2
                exact ⟨by omega, h2.2⟩
              obtain ⟨hmy, htk⟩ := hkq
              have hmy2 : ¬ (zy.l.length : Int) < (m : Int) := by omega
              have hmc : m ≤ ci := by have := hSz.cap; omega
              have hmc2 : m ≤ cy := by have := hSy.cap; omega
              have HY := hSy.upto hmy
              have HZ := hSz.upto hml
              rw [← List.map_take] at HY HZ
              rw [htk] at HY
              have qy := fun W (h : Below wr.heap.size wr W) => str_of (HY.below h)
              have qz := fun W (h : Below wr.heap.size wr W) => str_of (HZ.below h)
              clear htk
              clear hz hzy hm
              go_wp2_with fail
              clear Bdq0 Bdq1 Bdq2 Bdq3 Bdq4 Bdr0 Bdr1 Bdr2 Bdr3 Bdr4
              refine wp_region_held_drew (S := fun w' => Below wr.heap.size wr w') (by kernel_rfl) (Below.refl _ _).drew (fun hHeld => ?_)
              try dsimp only at hHeld
              have bd : Below wr.heap.size wr wr.drew := (Below.refl wr.heap.size wr).drew
              generalize wr.drew = wd at *
              try simp only [Act.put, List.setIfInBounds_toArray, List.set_cons_zero, List.set_cons_succ]
              refine wpAnyH_take (i := 0) (v := ?_) (by simp only [List.getElem?_toArray, List.getElem?_cons_zero]; rfl) (by kernel_rfl) (by kernel_rfl) (by kernel_rfl) (by intro _ _ _ h; exact h) (Or.inl ⟨by rfl, ?_⟩) hHeld ?_
              rotate_left 1
              · intro wq hSw
                try dsimp only at hSw
                go_simp
                try (with_reducible rfl)
              try simp only [Act.put, List.setIfInBounds_toArray, List.set_cons_zero, List.set_cons_succ]
              refine wpAnyH_take (i := 1) (v := ?_) (by simp only [List.getElem?_toArray, List.getElem?_cons_succ, List.getElem?_cons_zero]; rfl) (by kernel_rfl) (by kernel_rfl) (by kernel_rfl) (by intro _ _ _ h; exact h) (Or.inl ⟨by rfl, ?_⟩) hHeld ?_
              rotate_left 1
              · intro wq hSw
                try dsimp only at hSw
                go_simp
                try (with_reducible rfl)
              try simp only [Act.put, List.setIfInBounds_toArray, List.set_cons_zero, List.set_cons_succ]
              refine wpAnyH_take (i := 2) (v := ?_) (by simp only [List.getElem?_toArray, List.getElem?_cons_succ, List.getElem?_cons_zero]; rfl) (by kernel_rfl) (by kernel_rfl) (by kernel_rfl) (by intro _ _ _ h; exact h) (Or.inl ⟨by rfl, ?_⟩) hHeld ?_
              rotate_left 1
              · intro wq hSw
                try dsimp only at hSw
                go_simp
                try (with_reducible rfl)
              try simp only [Act.put, List.setIfInBounds_toArray, List.set_cons_zero, List.set_cons_succ]
              refine wpAnyH_take (i := 3) (v := ?_) (by simp only [List.getElem?_toArray, List.getElem?_cons_succ, List.getElem?_cons_zero]; rfl) (by kernel_rfl) (by kernel_rfl) (by kernel_rfl) (by intro _ _ _ h; exact h) (Or.inl ⟨by rfl, ?_⟩) hHeld ?_
              rotate_left 1
              · intro wq hSw
                try dsimp only at hSw
                go_simp
                try (with_reducible rfl)
              try simp only [Act.put, List.setIfInBounds_toArray, List.set_cons_zero, List.set_cons_succ]
              refine wpAnyH_take (i := 4) (v := ?_) (by simp only [List.getElem?_toArray, List.getElem?_cons_succ, List.getElem?_cons_zero]; rfl) (by kernel_rfl) (by kernel_rfl) (by kernel_rfl) (by intro _ _ _ h; exact h) (Or.inl ⟨by rfl, ?_⟩) hHeld ?_
              rotate_left 1
              · intro wq hSw
                try dsimp only at hSw
                have x0 := (hSw.cell hab).trans c0
                go_simp
                try (with_reducible rfl)
              try simp only [Act.put, List.setIfInBounds_toArray, List.set_cons_zero, List.set_cons_succ]
              refine wpAnyH_take (i := 5) (v := ?_) (by simp only [List.getElem?_toArray, List.getElem?_cons_succ, List.getElem?_cons_zero]; rfl) (by kernel_rfl) (by kernel_rfl) (by kernel_rfl) (by intro _ _ _ h; exact h) (Or.inl ⟨by rfl, ?_⟩) hHeld ?_
              rotate_left 1
              · intro wq hSw
                try dsimp only at hSw
                go_simp
                try (with_reducible rfl)
              try simp only [Act.put, List.setIfInBounds_toArray, List.set_cons_zero, List.set_cons_succ]
              refine wpAnyH_take (i := 6) (v := ?_) (by simp only [List.getElem?_toArray, List.getElem?_cons_succ, List.getElem?_cons_zero]; rfl) (by kernel_rfl) (by kernel_rfl) (by kernel_rfl) (by intro _ _ _ h; exact h) (Or.inl ⟨by rfl, ?_⟩) hHeld ?_
              rotate_left 1
              · intro wq hSw
                try dsimp only at hSw
                go_simp
                try (with_reducible rfl)
              try simp only [Act.put, List.setIfInBounds_toArray, List.set_cons_zero, List.set_cons_succ]
              refine wpAnyH_take (i := 7) (v := ?_) (by simp only [List.getElem?_toArray, List.getElem?_cons_succ, List.getElem?_cons_zero]; rfl) (by kernel_rfl) (by kernel_rfl) (by kernel_rfl) (by intro _ _ _ h; exact h) (Or.inl ⟨by rfl, ?_⟩) hHeld ?_
              rotate_left 1
              · intro wq hSw
                try dsimp only at hSw
                go_simp
                try (with_reducible rfl)
              try simp only [Act.put, List.setIfInBounds_toArray, List.set_cons_zero, List.set_cons_succ]
              refine wpAnyH_take (i := 8) (v := ?_) (by simp only [List.getElem?_toArray, List.getElem?_cons_succ, List.getElem?_cons_zero]; rfl) (by kernel_rfl) (by kernel_rfl) (by kernel_rfl) (by intro _ _ _ h; exact h) (Or.inl ⟨by rfl, ?_⟩) hHeld ?_
              rotate_left 1
              · intro wq hSw
                try dsimp only at hSw
                obtain ⟨x0, x1, x2, x3, x4, _⟩ := (Bn.under hSw).five
                go_simp
                try (with_reducible rfl)
              try simp only [Act.put, List.setIfInBounds_toArray, List.set_cons_zero, List.set_cons_succ]
              refine wpAnyH_take (i := 9) (v := ?_) (by simp only [List.getElem?_toArray, List.getElem?_cons_succ, List.getElem?_cons_zero]; rfl) (by kernel_rfl) (by kernel_rfl) (by kernel_rfl) (by intro _ _ _ h; exact h) (Or.inl ⟨by rfl, ?_⟩) hHeld ?_
              rotate_left 1
              · intro wq hSw
                try dsimp only at hSw
                go_simp
                try (with_reducible rfl)
              try simp only [Act.put, List.setIfInBounds_toArray, List.set_cons_zero, List.set_cons_succ]
              refine wpAnyH_take (i := 10) (v := ?_) (by simp only [List.getElem?_toArray, List.getElem?_cons_succ, List.getElem?_cons_zero]; rfl) (by kernel_rfl) (by kernel_rfl) (by kernel_rfl) (by intro _ _ _ h; exact h) (Or.inl ⟨by rfl, ?_⟩) hHeld ?_
              rotate_left 1
              · intro wq hSw
                try dsimp only at hSw
                go_simp
                try (with_reducible rfl)
              try simp only [Act.put, List.setIfInBounds_toArray, List.set_cons_zero, List.set_cons_succ]
              refine wpAnyH_take (i := 11) (v := ?_) (by simp only [List.getElem?_toArray, List.getElem?_cons_succ, List.getElem?_cons_zero]; rfl) (by kernel_rfl) (by kernel_rfl) (by kernel_rfl) (by intro _ _ _ h; exact h) (Or.inl ⟨by rfl, ?_⟩) hHeld ?_
              rotate_left 1
              · intro wq hSw
                try dsimp only at hSw
                go_simp
                try (with_reducible rfl)
              try simp only [Act.put, List.setIfInBounds_toArray, List.set_cons_zero, List.set_cons_succ]
              refine wpAnyH_take (i := 12) (v := ?_) (by simp only [List.getElem?_toArray, List.getElem?_cons_succ, List.getElem?_cons_zero]; rfl) (by kernel_rfl) (by kernel_rfl) (by kernel_rfl) (by intro _ _ _ h; exact h) (Or.inl ⟨by rfl, ?_⟩) hHeld ?_
              rotate_left 1
              · intro wq hSw
                try dsimp only at hSw
                have x0 := (hSw.cell hgx).trans f2
                go_simp
                try (with_reducible rfl)
              try simp only [Act.put, List.setIfInBounds_toArray, List.set_cons_zero, List.set_cons_succ]
              refine wpAnyH_take (i := 13) (v := ?_) (by simp only [List.getElem?_toArray, List.getElem?_cons_succ, List.getElem?_cons_zero]; rfl) (by kernel_rfl) (by kernel_rfl) (by kernel_rfl) (by intro _ _ _ h; exact h) (Or.inl ⟨by rfl, ?_⟩) hHeld ?_
              rotate_left 1
              · intro wq hSw
                try dsimp only at hSw
                go_simp
                try (with_reducible rfl)
              try simp only [Act.put, List.setIfInBounds_toArray, List.set_cons_zero, List.set_cons_succ]
              refine wpAnyH_take (i := 14) (v := ?_) (by simp only [List.getElem?_toArray, List.getElem?_cons_succ, List.getElem?_cons_zero]; rfl) (by kernel_rfl) (by kernel_rfl) (by kernel_rfl) (by intro _ _ _ h; exact h) (Or.inl ⟨by rfl, ?_⟩) hHeld ?_
              rotate_left 1
              · intro wq hSw
                try dsimp only at hSw
                go_simp
                try (with_reducible rfl)
              try simp only [Act.put, List.setIfInBounds_toArray, List.set_cons_zero, List.set_cons_succ]
              refine wpAnyH_take (i := 15) (v := .bool false) (by simp only [List.getElem?_toArray, List.getElem?_cons_succ, List.getElem?_cons_zero]; rfl) (by kernel_rfl) (by kernel_rfl) (by kernel_rfl) (by intro _ _ _ h; exact h) (Or.inl ⟨by rfl, ?_⟩) hHeld ?_
              · intro wq hSw
                try dsimp only at hSw
                go_simp
                all_goals first
                  | (with_reducible rfl)
                  | (simp; done)
                  | (simp; omega)
              try simp only [Act.put, List.setIfInBounds_toArray, List.set_cons_zero, List.set_cons_succ]
              refine wpAnyH_take (i := 16) (v := ?_) (by simp only [List.getElem?_toArray, List.getElem?_cons_succ, List.getElem?_cons_zero]; rfl) (by kernel_rfl) (by kernel_rfl) (by kernel_rfl) (by intro _ _ _ h; exact h) (Or.inl ⟨by rfl, ?_⟩) hHeld ?_
              rotate_left 1
              · intro wq hSw
                try dsimp only at hSw
                go_simp
                try (with_reducible rfl)
              try simp only [Act.put, List.setIfInBounds_toArray, List.set_cons_zero, List.set_cons_succ]
              refine wpAnyH_take (i := 17) (v := ?_) (by simp only [List.getElem?_toArray, List.getElem?_cons_succ, List.getElem?_cons_zero]; rfl) (by kernel_rfl) (by kernel_rfl) (by kernel_rfl) (by intro _ _ _ h; exact h) (Or.inl ⟨by rfl, ?_⟩) hHeld ?_
              rotate_left 1
              · intro wq hSw
                try dsimp only at hSw
                go_simp
                try (with_reducible rfl)
              try simp only [Act.put, List.setIfInBounds_toArray, List.set_cons_zero, List.set_cons_succ]
              refine wpAnyH_take (i := 18) (v := ?_) (by simp only [List.getElem?_toArray, List.getElem?_cons_succ, List.getElem?_cons_zero]; rfl) (by kernel_rfl) (by kernel_rfl) (by kernel_rfl) (by intro _ _ _ h; exact h) (Or.inl ⟨by rfl, ?_⟩) hHeld ?_
              rotate_left 1
              · intro wq hSw
                try dsimp only at hSw
                obtain ⟨x0, x1, x2, x3, x4, _⟩ := (Bn.under hSw).five
                go_simp
                try (with_reducible rfl)
              try simp only [Act.put, List.setIfInBounds_toArray, List.set_cons_zero, List.set_cons_succ]
              refine wpAnyH_take (i := 19) (v := ?_) (by simp only [List.getElem?_toArray, List.getElem?_cons_succ, List.getElem?_cons_zero]; rfl) (by kernel_rfl) (by kernel_rfl) (by kernel_rfl) (by intro _ _ _ h; exact h) (Or.inl ⟨by rfl, ?_⟩) hHeld ?_
              rotate_left 1
              · intro wq hSw
                try dsimp only at hSw
                go_simp
                try (with_reducible rfl)
              try simp only [Act.put, List.setIfInBounds_toArray, List.set_cons_zero, List.set_cons_succ]
              refine wpAnyH_take (i := 20) (v := ?_) (by simp only [List.getElem?_toArray, List.getElem?_cons_succ, List.getElem?_cons_zero]; rfl) (by kernel_rfl) (by kernel_rfl) (by kernel_rfl) (by intro _ _ _ h; exact h) (Or.inl ⟨by rfl, ?_⟩) hHeld ?_
              rotate_left 1
              · intro wq hSw
                try dsimp only at hSw
                go_simp
                try (with_reducible rfl)
              try simp only [Act.put, List.setIfInBounds_toArray, List.set_cons_zero, List.set_cons_succ]
              refine wpAnyH_take (i := 21) (v := ?_) (by simp only [List.getElem?_toArray, List.getElem?_cons_succ, List.getElem?_cons_zero]; rfl) (by kernel_rfl) (by kernel_rfl) (by kernel_rfl) (by intro _ _ _ h; exact h) (Or.inl ⟨by rfl, ?_⟩) hHeld ?_
              rotate_left 1
              · intro wq hSw
                try dsimp only at hSw
                go_simp
                try (with_reducible rfl)
              try simp only [Act.put, List.setIfInBounds_toArray, List.set_cons_zero, List.set_cons_succ]
              refine wpAnyH_take (i := 22) (v := ?_) (by simp only [List.getElem?_toArray, List.getElem?_cons_succ, List.getElem?_cons_zero]; rfl) (by kernel_rfl) (by kernel_rfl) (by kernel_rfl) (by intro _ _ _ h; exact h) (Or.inl ⟨by rfl, ?_⟩) hHeld ?_
              rotate_left 1
              · intro wq hSw
                try dsimp only at hSw
                have x0 := (hSw.cell hgx).trans f2
                go_simp
                try (with_reducible rfl)
              try simp only [Act.put, List.setIfInBounds_toArray, List.set_cons_zero, List.set_cons_succ]
              refine wpAnyH_take (i := 23) (v := ?_) (by simp only [List.getElem?_toArray, List.getElem?_cons_succ, List.getElem?_cons_zero]; rfl) (by kernel_rfl) (by kernel_rfl) (by kernel_rfl) (by intro _ _ _ h; exact h) (Or.inl ⟨by rfl, ?_⟩) hHeld ?_
              rotate_left 1
              · intro wq hSw
                try dsimp only at hSw
                go_simp
                try (with_reducible rfl)
              try simp only [Act.put, List.setIfInBounds_toArray, List.set_cons_zero, List.set_cons_succ]
              refine wpAnyH_take (i := 24) (v := ?_) (by simp only [List.getElem?_toArray, List.getElem?_cons_succ, List.getElem?_cons_zero]; rfl) (by kernel_rfl) (by kernel_rfl) (by kernel_rfl) (by intro _ _ _ h; exact h) (Or.inl ⟨by rfl, ?_⟩) hHeld ?_
              rotate_left 1
              · intro wq hSw
                try dsimp only at hSw
                go_simp
                try (with_reducible rfl)
              try simp only [Act.put, List.setIfInBounds_toArray, List.set_cons_zero, List.set_cons_succ]
              refine wpAnyH_take (i := 25) (v := ?_) (by simp only [List.getElem?_toArray, List.getElem?_cons_succ, List.getElem?_cons_zero]; rfl) (by kernel_rfl) (by kernel_rfl) (by kernel_rfl) (by intro _ _ _ h; exact h) (Or.inl ⟨by rfl, ?_⟩) hHeld ?_
              rotate_left 1
              · intro wq hSw
                try dsimp only at hSw
                have q := qy wq hSw
                go_simp
                try (with_reducible rfl)
              try simp only [Act.put, List.setIfInBounds_toArray, List.set_cons_zero, List.set_cons_succ]
              refine wpAnyH_take (i := 26) (v := ?_) (by simp only [List.getElem?_toArray, List.getElem?_cons_succ, List.getElem?_cons_zero]; rfl) (by kernel_rfl) (by kernel_rfl) (by kernel_rfl) (by intro _ _ _ h; exact h) (Or.inl ⟨by rfl, ?_⟩) hHeld ?_
              rotate_left 1
              · intro wq hSw
                try dsimp only at hSw
                go_simp
                try (with_reducible rfl)
              try simp only [Act.put, List.setIfInBounds_toArray, List.set_cons_zero, List.set_cons_succ]
              refine wpAnyH_take (i := 27) (v := ?_) (by simp only [List.getElem?_toArray, List.getElem?_cons_succ, List.getElem?_cons_zero]; rfl) (by kernel_rfl) (by kernel_rfl) (by kernel_rfl) (by intro _ _ _ h; exact h) (Or.inl ⟨by rfl, ?_⟩) hHeld ?_
              rotate_left 1
              · intro wq hSw
                try dsimp only at hSw
                obtain ⟨x0, x1, x2, x3, x4, _⟩ := (Bd.under hSw).five
                go_simp
                try (with_reducible rfl)
              try simp only [Act.put, List.setIfInBounds_toArray, List.set_cons_zero, List.set_cons_succ]
              refine wpAnyH_take (i := 28) (v := ?_) (by simp only [List.getElem?_toArray, List.getElem?_cons_succ, List.getElem?_cons_zero]; rfl) (by kernel_rfl) (by kernel_rfl) (by kernel_rfl) (by intro _ _ _ h; exact h) (Or.inl ⟨by rfl, ?_⟩) hHeld ?_
              rotate_left 1
              · intro wq hSw
                try dsimp only at hSw
                go_simp
                try (with_reducible rfl)
              try simp only [Act.put, List.setIfInBounds_toArray, List.set_cons_zero, List.set_cons_succ]
              refine wpAnyH_take (i := 29) (v := ?_) (by simp only [List.getElem?_toArray, List.getElem?_cons_succ, List.getElem?_cons_zero]; rfl) (by kernel_rfl) (by kernel_rfl) (by kernel_rfl) (by intro _ _ _ h; exact h) (Or.inl ⟨by rfl, ?_⟩) hHeld ?_
              rotate_left 1
              · intro wq hSw
                try dsimp only at hSw
                go_simp
                try (with_reducible rfl)
              try simp only [Act.put, List.setIfInBounds_toArray, List.set_cons_zero, List.set_cons_succ]
              refine wpAnyH_take (i := 30) (v := ?_) (by simp only [List.getElem?_toArray, List.getElem?_cons_succ, List.getElem?_cons_zero]; rfl) (by kernel_rfl) (by kernel_rfl) (by kernel_rfl) (by intro _ _ _ h; exact h) (Or.inl ⟨by rfl, ?_⟩) hHeld ?_
              rotate_left 1
              · intro wq hSw
                try dsimp only at hSw
                go_simp
                try (with_reducible rfl)
              try simp only [Act.put, List.setIfInBounds_toArray, List.set_cons_zero, List.set_cons_succ]
              refine wpAnyH_take (i := 31) (v := ?_) (by simp only [List.getElem?_toArray, List.getElem?_cons_succ, List.getElem?_cons_zero]; rfl) (by kernel_rfl) (by kernel_rfl) (by kernel_rfl) (by intro _ _ _ h; exact h) (Or.inl ⟨by rfl, ?_⟩) hHeld ?_
              rotate_left 1
              · intro wq hSw
                try dsimp only at hSw
                have x0 := (hSw.cell hg).trans e2
                go_simp
                try (with_reducible rfl)
              try simp only [Act.put, List.setIfInBounds_toArray, List.set_cons_zero, List.set_cons_succ]
              refine wpAnyH_take (i := 32) (v := ?_) (by simp only [List.getElem?_toArray, List.getElem?_cons_succ, List.getElem?_cons_zero]; rfl) (by kernel_rfl) (by kernel_rfl) (by kernel_rfl) (by intro _ _ _ h; exact h) (Or.inl ⟨by rfl, ?_⟩) hHeld ?_
              rotate_left 1
              · intro wq hSw
                try dsimp only at hSw
                go_simp
                try (with_reducible rfl)
              try simp only [Act.put, List.setIfInBounds_toArray, List.set_cons_zero, List.set_cons_succ]
              refine wpAnyH_take (i := 33) (v := ?_) (by simp only [List.getElem?_toArray, List.getElem?_cons_succ, List.getElem?_cons_zero]; rfl) (by kernel_rfl) (by kernel_rfl) (by kernel_rfl) (by intro _ _ _ h; exact h) (Or.inl ⟨by rfl, ?_⟩) hHeld ?_
              rotate_left 1
              · intro wq hSw
                try dsimp only at hSw
                go_simp
                try (with_reducible rfl)
              try simp only [Act.put, List.setIfInBounds_toArray, List.set_cons_zero, List.set_cons_succ]
              refine wpAnyH_take (i := 34) (v := ?_) (by simp only [List.getElem?_toArray, List.getElem?_cons_succ, List.getElem?_cons_zero]; rfl) (by kernel_rfl) (by kernel_rfl) (by kernel_rfl) (by intro _ _ _ h; exact h) (Or.inl ⟨by rfl, ?_⟩) hHeld ?_
              rotate_left 1
              · intro wq hSw
                try dsimp only at hSw
                have q := qz wq hSw
                go_simp
                try (with_reducible rfl)
              try simp only [Act.put, List.setIfInBounds_toArray, List.set_cons_zero, List.set_cons_succ]
              refine wpAnyH_take (i := 35) (v := ?_) (by simp only [List.getElem?_toArray, List.getElem?_cons_succ, List.getElem?_cons_zero]; rfl) (by kernel_rfl) (by kernel_rfl) (by kernel_rfl) (by intro _ _ _ h; exact h) (Or.inl ⟨by rfl, ?_⟩) hHeld ?_
              rotate_left 1
              · intro wq hSw
                try dsimp only at hSw
                go_simp
                try (with_reducible rfl)
              try simp only [Act.put, List.setIfInBounds_toArray, List.set_cons_zero, List.set_cons_succ]
              refine wpAnyH_take (i := 36) (v := ?_) (by simp only [List.getElem?_toArray, List.getElem?_cons_succ, List.getElem?_cons_zero]; rfl) (by kernel_rfl) (by kernel_rfl) (by kernel_rfl) (by intro _ _ _ h; exact h) (Or.inl ⟨by rfl, ?_⟩) hHeld ?_
              rotate_left 1
              · intro wq hSw
                try dsimp only at hSw
                go_simp
                try (with_reducible rfl)
              try simp only [Act.put, List.setIfInBounds_toArray, List.set_cons_zero, List.set_cons_succ]
              refine wpAnyH_take (i := 37) (v := ?_) (by simp only [List.getElem?_toArray, List.getElem?_cons_succ, List.getElem?_cons_zero]; rfl) (by kernel_rfl) (by kernel_rfl) (by kernel_rfl) (by intro _ _ _ h; exact h) (Or.inl ⟨by rfl, ?_⟩) hHeld ?_
              rotate_left 1
              · intro wq hSw
                try dsimp only at hSw
                go_simp
                try (with_reducible rfl)
              try simp only [Act.put, List.setIfInBounds_toArray, List.set_cons_zero, List.set_cons_succ]
              refine wpAnyH_done (by kernel_rfl) ?_ _
              go_wp2
              go_roundg g'
              case measure => omega
              case rel => exact ⟨j + 1, by have := hj.out; omega, by first | rfl | (simp; done) | (simp; exact wrap64_small (by omega) (by omega)), br.trans (bd.mono br.size)⟩
            · skip
              clear hj
              obtain ⟨o9, ho9⟩ : ∃ x : Int, Hid ((openF Zz : Int) = x) := ⟨_, rfl⟩
              have hop9 : Hid (decide (o9 ≤ 3) = decide (openF Zz ≤ 3)) := by
                show _ = _
                rw [← ho9.out]
                exact decide_eq_decide.2 (by omega)
              cases op
              · skip
                obtain ⟨Bnq0, Bnq1, Bnq2, Bnq3, Bnq4, Bnr0, Bnr1, Bnr2, Bnr3, Bnr4⟩ := Bn.five
                have Bnl := Bn.lt
                go_wp2_with fail
                clear Bnq0 Bnq1 Bnq2 Bnq3 Bnq4 Bnr0 Bnr1 Bnr2 Bnr3 Bnr4
                clear Bdq0 Bdq1 Bdq2 Bdq3 Bdq4 Bdr0 Bdr1 Bdr2 Bdr3 Bdr4
                have hC := dOpen_at size Lf Dn Dw A5 n n Zz o9 wr zn ho9.out
                refine hC.mono ?_
                clear hC
                rintro e w9 ⟨rfl, b9⟩
                replace Bd := Bd.under b9
                replace Bn := Bn.under b9
                replace zx := zx.below b9
                replace zn := zn.below b9
                replace bb := bb.trans (b9.mono bb.size)
                obtain ⟨Bnq0, Bnq1, Bnq2, Bnq3, Bnq4, Bnr0, Bnr1, Bnr2, Bnr3, Bnr4⟩ := Bn.five
                have Bnl := Bn.lt
                obtain ⟨Bdq0, Bdq1, Bdq2, Bdq3, Bdq4, Bdr0, Bdr1, Bdr2, Bdr3, Bdr4⟩ := Bd.five
                have Bdl := Bd.lt
                go_wp2
                go_roundg g
                case measure => omega
                case rel =>
                  refine ⟨k + 1, by have := hk.out; omega, by first | rfl | (simp; done), A5, n, Zz, Lf, Dn, Dw, _, rfl, hc9, by first | exact hop9 | exact hop9t, hlf9, ((((Bd.set 0 _).set 1 _).set 2 _).set 3 _).set 4 _, ?_, ((((bb.setCell (Nat.le_refl _) _).setCell (Nat.le_refl _) _).setCell (Nat.le_refl _) _).setCell (Nat.le_refl _) _).setCell (Nat.le_refl _) _⟩
                  exact (((((zn.far (a := ⟨w.heap.size, 0, none⟩) (fun h => h.1 rfl) _).far (a := ⟨w.heap.size, 1, none⟩) (fun h => h.1 rfl) _).far (a := ⟨w.heap.size, 2, none⟩) (fun h => h.1 rfl) _).far (a := ⟨w.heap.size, 3, none⟩) (fun h => h.1 rfl) _).far (a := ⟨w.heap.size, 4, none⟩) (fun h => h.1 rfl) _).imp (fun b _ h => h.1)
              · have ho3 : o9 ≤ 3 := by
                  have h1 := hO3.out (of_decide_eq_true hop.out.symm)
                  rw [← ho9.out]
                  omega
                have hop9t : Hid (true = decide (openF Zz ≤ 3)) := by
                  show true = _
                  rw [← hop9.out]
                  exact (decide_eq_true ho3).symm
                obtain ⟨Bnq0, Bnq1, Bnq2, Bnq3, Bnq4, Bnr0, Bnr1, Bnr2, Bnr3, Bnr4⟩ := Bn.five
                have Bnl := Bn.lt
                go_wp2_with fail
                clear Bnq0 Bnq1 Bnq2 Bnq3 Bnq4 Bnr0 Bnr1 Bnr2 Bnr3 Bnr4
                clear Bdq0 Bdq1 Bdq2 Bdq3 Bdq4 Bdr0 Bdr1 Bdr2 Bdr3 Bdr4
                have hC := dOpen_at size Lf Dn Dw A5 n n Zz o9 wr zn ho9.out
                refine hC.mono ?_
                clear hC
                rintro e w9 ⟨rfl, b9⟩
                replace Bd := Bd.under b9
                replace Bn := Bn.under b9
                replace zx := zx.below b9
                replace zn := zn.below b9
                replace bb := bb.trans (b9.mono bb.size)
                obtain ⟨Bnq0, Bnq1, Bnq2, Bnq3, Bnq4, Bnr0, Bnr1, Bnr2, Bnr3, Bnr4⟩ := Bn.five
                have Bnl := Bn.lt
                go_wp2_with fail
                clear Bnq0 Bnq1 Bnq2 Bnq3 Bnq4 Bnr0 Bnr1 Bnr2 Bnr3 Bnr4
                have hC := dOpen_at size Lf Dn Dw A5 n n Zz o9 w9 zn ho9.out
                refine hC.mono ?_
                clear hC
                rintro e w10 ⟨rfl, b10⟩
                replace Bd := Bd.under b10
                replace Bn := Bn.under b10
                replace zx := zx.below b10
                replace zn := zn.below b10
                replace bb := bb.trans (b10.mono bb.size)
                obtain ⟨Bnq0, Bnq1, Bnq2, Bnq3, Bnq4, Bnr0, Bnr1, Bnr2, Bnr3, Bnr4⟩ := Bn.five
                have Bnl := Bn.lt
                obtain ⟨Bdq0, Bdq1, Bdq2, Bdq3, Bdq4, Bdr0, Bdr1, Bdr2, Bdr3, Bdr4⟩ := Bd.five
                have Bdl := Bd.lt
                go_wp2
                go_roundg g
                case measure => omega
                case rel =>
                  refine ⟨k + 1, by have := hk.out; omega, by first | rfl | (simp; done), A5, n, Zz, Lf, Dn, Dw, _, rfl, hc9, by first | exact hop9 | exact hop9t, hlf9, ((((Bd.set 0 _).set 1 _).set 2 _).set 3 _).set 4 _, ?_, ((((bb.setCell (Nat.le_refl _) _).setCell (Nat.le_refl _) _).setCell (Nat.le_refl _) _).setCell (Nat.le_refl _) _).setCell (Nat.le_refl _) _⟩
                  exact (((((zn.far (a := ⟨w.heap.size, 0, none⟩) (fun h => h.1 rfl) _).far (a := ⟨w.heap.size, 1, none⟩) (fun h => h.1 rfl) _).far (a := ⟨w.heap.size, 2, none⟩) (fun h => h.1 rfl) _).far (a := ⟨w.heap.size, 3, none⟩) (fun h => h.1 rfl) _).far (a := ⟨w.heap.size, 4, none⟩) (fun h => h.1 rfl) _).imp (fun b _ h => h.1)
      · go_wp2
        go_ret
        exact ⟨rfl, bb⟩
    · go_wp2
      go_ret
      exact ⟨rfl, bb⟩

theorem DevMay_walk (a0_0 : Int) (a0_1 : Option Addr) (len0_1 cap0_1 : Nat) (a0_2 : Int) (a0_3 : Bool) (a0_4 : Int) (a1 : Option Addr) (len1 cap1 : Nat) (a2 : Option Addr) (len2 cap2 : Nat) (z2 : List Int) (w : World) (w0_0 : (Lit.int .i64 a0_0).wf = true) (w0_1 : IsSts [.num .i64, .num .i64, .row .u8, .num .i64] w a0_1 len0_1 cap0_1) (w0_2 : (Lit.int .i64 a0_2).wf = true) (w0_4 : (Lit.int .i64 a0_4).wf = true) (w1 : IsSts [.num .i64, .num .i64, .row .u8] w a1 len1 cap1) (w2 : IsRow .i64 w a2 len2 cap2 z2) :
    Calls Try.prog 5 #[.agg #[.int .i64 a0_0, .slice a0_1 len0_1 cap0_1, .int .i64 a0_2, .bool a0_3, .int .i64 a0_4], .slice a1 len1 cap1, .slice a2 len2 cap2] w (AwakePost w) := by
  obtain ⟨zs, z0⟩ := zs_of_sts w0_1
  obtain ⟨ks, s1, hf⟩ := ints_of_row w2
  exact DevMay_core (F := fun _ => True) a0_0 a0_2 a0_4 a0_3 a0_1 len0_1 cap0_1 zs a1 len1 cap1 a2 len2 cap2 ks w z0 w1 s1 hf (wf_i64 w0_2).2
end Go.Proofs.Ytnjekhnheihooaa
