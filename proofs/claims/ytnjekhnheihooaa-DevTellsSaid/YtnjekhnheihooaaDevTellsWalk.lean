/-
  DevTells: the walk (written by gen_devtells.py).
-/
import Derived.Test.YtnjekhnheihooaaDevAwake
import Derived.Test.YtnjekhnheihooaaRef4d
namespace Go.Proofs.Ytnjekhnheihooaa
open Go.RowKit Go.Wag
set_option linter.unusedVariables false

theorem refNew4_at (n size : Int) (zs : List Zp) (m : Nat) (w : World) (hm : mayF n size = true) (hz : List.replicate n.toNat zero4 = zs) (hl : zs.length = m) (h1 : m ≤ 100) : Calls Try.prog 13 #[.int .i64 n, .int .i64 size] w (DE w size (-1) 0 false zs 0 m) := by
  subst hz
  refine (refNew4_any n size w).mono ?_
  rintro e w' (⟨_, h⟩ | ⟨h, _⟩)
  · exact DevErr.at_ hl h1 e w' h
  · rw [hm] at h
    cases h
theorem refNew4_no (n size : Int) (w : World) (hm : mayF n size = false) : Calls Try.prog 13 #[.int .i64 n, .int .i64 size] w fun e w' => e = .returned (.tuple #[.agg #[.int .i64 0, .slice none 0 0, .int .i64 0, .bool false, .int .i64 0], .int .i64 1]) ∧ Below w.heap.size w w' := by
  refine (refNew4_any n size w).mono ?_
  rintro e w' (⟨h, _⟩ | ⟨_, h⟩)
  · rw [hm] at h
    cases h
  · exact h
theorem refCrash4_at {F : Nat → Prop} (size lf dn : Int) (dw : Bool) (A : Option Addr) (n c : Nat) (zs : List Zp) (Ak : Option Addr) (nk ck : Nat) (ks : List Int) (Lf : Int) (Dw : Bool) (Zz : List Zp) (w : World) (h : Zs F w A n c zs) (hsm : Sm zs) (hs : Sl w Ak nk ck (ks.map iv)) (hf : fits ks)
    (h1 : cdLf size lf zs = Lf) (h3 : cdDw size dw zs = Dw) (h4 : cdZs size ks zs = Zz) :
    Calls Try.prog 18 #[.agg #[.int .i64 size, .slice A n c, .int .i64 lf, .bool dw, .int .i64 dn], .slice Ak nk ck] w (DC w size Lf dn Dw Zz n) := by
  subst h1 h3 h4
  exact refCrash4_any size lf dn dw A n c zs Ak nk ck ks w h hsm hs hf
theorem refRead4_ok {F : Nat → Prop} (size lf dn : Int) (dw : Bool) (A : Option Addr) (n c : Nat) (zs : List Zp) (zn at_ m : Int) (l : List UInt8) (k : Nat) (w : World) (h : Zs F w A n c zs) (hsm : Sm zs) (hx : at_ < 9223372036854775808) (hy : m < 9223372036854775808) (ho : rdOk size zs zn at_ m = true) (hl : rdF size zs zn at_ m = l) (hk : l.length = k) :
    Calls Try.prog 15 #[.agg #[.int .i64 size, .slice A n c, .int .i64 lf, .bool dw, .int .i64 dn], .int .i64 zn, .int .i64 at_, .int .i64 m] w fun e w' => ∃ A c, e = .returned (.tuple #[.slice A k c, .int .i64 0]) ∧ Nw 5 w w' A k c (l.map v8) ∧ Below w.heap.size w w' := by
  subst hl hk
  refine (refRead4_any size lf dn dw A n c zs zn at_ m w h hsm hx hy).mono ?_
  rintro e w' (⟨_, h⟩ | ⟨h, _⟩)
  · exact h
  · rw [ho] at h
    cases h
theorem refRead4_no {F : Nat → Prop} (size lf dn : Int) (dw : Bool) (A : Option Addr) (n c : Nat) (zs : List Zp) (zn at_ m : Int) (w : World) (h : Zs F w A n c zs) (hsm : Sm zs) (hx : at_ < 9223372036854775808) (hy : m < 9223372036854775808) (ho : rdOk size zs zn at_ m = false) :
    Calls Try.prog 15 #[.agg #[.int .i64 size, .slice A n c, .int .i64 lf, .bool dw, .int .i64 dn], .int .i64 zn, .int .i64 at_, .int .i64 m] w fun e w' => e = .returned (.tuple #[.slice none 0 0, .int .i64 1]) ∧ Below w.heap.size w w' := by
  refine (refRead4_any size lf dn dw A n c zs zn at_ m w h hsm hx hy).mono ?_
  rintro e w' (⟨h, _⟩ | ⟨_, h⟩)
  · rw [ho] at h
    cases h
  · exact h

set_option maxRecDepth 100000 in
set_option maxHeartbeats 8000000 in
theorem DevTells_core {F : Nat → Prop} (size lf dn : Int) (dw : Bool) (A : Option Addr) (n c : Nat) (zs : List Zp) (Ak : Option Addr) (nk ck : Nat) (ks : List Int) (x y zz : Int) (w : World) (z0 : Zs F w A n c zs) (s1 : Sl w Ak nk ck (ks.map iv)) (hfk : fits ks) (hy1 : y < 9223372036854775808) (hz1 : zz < 9223372036854775808) :
    Calls Try.prog 4 #[.agg #[.int .i64 size, .slice A n c, .int .i64 lf, .bool dw, .int .i64 dn], .slice Ak nk ck, .int .i64 x, .int .i64 y, .int .i64 zz] w (AwakePost w) := by
  have bb := Below.refl w.heap.size w
  go_enter Try.func4, Try.ntmps4
  replace z0 := z0.alloc (.cells #[.int .i64 size, .slice A n c, .int .i64 lf, .bool dw, .int .i64 dn] 25)
  replace s1 := s1.alloc (.cells #[.int .i64 size, .slice A n c, .int .i64 lf, .bool dw, .int .i64 dn] 25)
  replace bb := bb.alloc bb.size (.cells #[.int .i64 size, .slice A n c, .int .i64 lf, .bool dw, .int .i64 dn] 25)
  have Bd := Blk.new w #[.int .i64 size, .slice A n c, .int .i64 lf, .bool dw, .int .i64 dn] 25
  go_wp2_with fail
  generalize (w.alloc (.cells #[.int .i64 size, .slice A n c, .int .i64 lf, .bool dw, .int .i64 dn] 25)) = W1 at *
  have hC := awake4_any W1
  refine hC.mono ?_
  clear hC
  rintro e w1 ⟨rfl, ba⟩
  replace z0 := z0.below ba
  replace s1 := s1.below ba
  replace Bd := Bd.under ba
  replace bb := bb.trans (ba.mono bb.size)
  obtain ⟨Bdq0, Bdq1, Bdq2, Bdq3, Bdq4, Bdr0, Bdr1, Bdr2, Bdr3, Bdr4⟩ := Bd.five
  have Bdl := Bd.lt
  go_wp2_with fail
  clear Bdq0 Bdq1 Bdq2 Bdq3 Bdq4 Bdr0 Bdr1 Bdr2 Bdr3 Bdr4
  have hC := lSmall_any size lf dn dw A n c zs w1 z0
  refine hC.mono ?_
  clear hC
  rintro e w2 ⟨rfl, b2⟩
  replace z0 := z0.below b2
  replace s1 := s1.below b2
  replace Bd := Bd.under b2
  replace bb := bb.trans (b2.mono bb.size)
  cases hsm : smF zs
  · go_wp2
    go_ret
    exact ⟨rfl, bb⟩
  obtain ⟨hn70, hsm⟩ := smF_sm hsm
  have hlen : zs.length = n := z0.len
  have hn100 : n ≤ 100 := by omega
  by_cases h3 : 100 < (nk : Int)
  · go_wp2
    go_ret
    exact ⟨rfl, bb⟩
  have h3b : (nk : Int) ≤ 100 := by omega
  clear hlen hn70 h3
  obtain ⟨Zz, hZz⟩ : ∃ t, Hid (cdZs size ks zs = t) := ⟨_, rfl⟩
  obtain ⟨Lf, hLf⟩ : ∃ t, Hid (cdLf size lf zs = t) := ⟨_, rfl⟩
  obtain ⟨Dw, hDw⟩ : ∃ t, Hid (cdDw size dw zs = t) := ⟨_, rfl⟩
  go_wp2_with fail
  cases hm : mayF x y
  · skip
    have hC := dNew_no x y w2 hm
    refine hC.mono ?_
    clear hC
    rintro e w3 ⟨rfl, b3⟩
    replace z0 := z0.below b3
    replace s1 := s1.below b3
    replace Bd := Bd.under b3
    replace bb := bb.trans (b3.mono bb.size)
    replace z0 := z0.alloc (.cells #[.int .i64 0, .slice none 0 0, .int .i64 0, .bool false, .int .i64 0] 25)
    replace s1 := s1.alloc (.cells #[.int .i64 0, .slice none 0 0, .int .i64 0, .bool false, .int .i64 0] 25)
    replace Bd := Bd.alloc (.cells #[.int .i64 0, .slice none 0 0, .int .i64 0, .bool false, .int .i64 0] 25)
    replace bb := bb.alloc bb.size (.cells #[.int .i64 0, .slice none 0 0, .int .i64 0, .bool false, .int .i64 0] 25)
    have Ba := Blk.new w3 #[.int .i64 0, .slice none 0 0, .int .i64 0, .bool false, .int .i64 0] 25
    go_wp2_with fail
    generalize (w3.alloc (.cells #[.int .i64 0, .slice none 0 0, .int .i64 0, .bool false, .int .i64 0] 25)) = v1 at *
    have hC := refNew4_no x y v1 hm
    refine hC.mono ?_
    clear hC
    rintro e w4 ⟨rfl, b4⟩
    replace z0 := z0.below b4
    replace s1 := s1.below b4
    replace Bd := Bd.under b4
    replace Ba := Ba.under b4
    replace bb := bb.trans (b4.mono bb.size)
    obtain ⟨Bdq0, Bdq1, Bdq2, Bdq3, Bdq4, Bdr0, Bdr1, Bdr2, Bdr3, Bdr4⟩ := Bd.five
    have Bdl := Bd.lt
    replace z0 := z0.alloc (.cells #[.int .i64 0, .slice none 0 0, .int .i64 0, .bool false, .int .i64 0] 25)
    replace s1 := s1.alloc (.cells #[.int .i64 0, .slice none 0 0, .int .i64 0, .bool false, .int .i64 0] 25)
    replace Bd := Bd.alloc (.cells #[.int .i64 0, .slice none 0 0, .int .i64 0, .bool false, .int .i64 0] 25)
    replace Ba := Ba.alloc (.cells #[.int .i64 0, .slice none 0 0, .int .i64 0, .bool false, .int .i64 0] 25)
    replace bb := bb.alloc bb.size (.cells #[.int .i64 0, .slice none 0 0, .int .i64 0, .bool false, .int .i64 0] 25)
    have Bb := Blk.new w4 #[.int .i64 0, .slice none 0 0, .int .i64 0, .bool false, .int .i64 0] 25
    go_wp2_with fail
    clear Bdq0 Bdq1 Bdq2 Bdq3 Bdq4 Bdr0 Bdr1 Bdr2 Bdr3 Bdr4
    generalize (w4.alloc (.cells #[.int .i64 0, .slice none 0 0, .int .i64 0, .bool false, .int .i64 0] 25)) = v2 at *
    cases ho : rdOk size zs x y zz
    · skip
      have hC := dRead_no size lf dn dw A n c zs x y zz v2 z0 hsm hy1 hz1 ho
      refine hC.mono ?_
      clear hC
      rintro e w5 ⟨rfl, b5⟩
      replace z0 := z0.below b5
      replace s1 := s1.below b5
      replace Bd := Bd.under b5
      replace Ba := Ba.under b5
      replace Bb := Bb.under b5
      replace bb := bb.trans (b5.mono bb.size)
      obtain ⟨Bdq0, Bdq1, Bdq2, Bdq3, Bdq4, Bdr0, Bdr1, Bdr2, Bdr3, Bdr4⟩ := Bd.five
      have Bdl := Bd.lt
      go_wp2_with fail
      clear Bdq0 Bdq1 Bdq2 Bdq3 Bdq4 Bdr0 Bdr1 Bdr2 Bdr3 Bdr4
      have hC := refRead4_no size lf dn dw A n c zs x y zz w5 z0 hsm hy1 hz1 ho
      refine hC.mono ?_
      clear hC
      rintro e w6 ⟨rfl, b6⟩
      replace z0 := z0.below b6
      replace s1 := s1.below b6
      replace Bd := Bd.under b6
      replace Ba := Ba.under b6
      replace Bb := Bb.under b6
      replace bb := bb.trans (b6.mono bb.size)
      go_wp2_with fail
      refine wp_region_held_drew (S := fun w' => Below w6.heap.size w6 w') (by kernel_rfl) (Below.refl _ _).drew (fun hHeld => ?_)
      try dsimp only at hHeld
      have bd : Below w6.heap.size w6 w6.drew := (Below.refl w6.heap.size w6).drew
      replace z0 := z0.below bd
      replace s1 := s1.below bd
      replace Bd := Bd.under bd
      replace Ba := Ba.under bd
      replace Bb := Bb.under bd
      replace bb := bb.trans (bd.mono bb.size)
      generalize w6.drew = wd at *
      refine wpAnyH_stronger (S' := fun w' => Below wd.heap.size wd w') (fun w' h => Below.trans bd (h.mono bd.size)) _ _ _ _ ?_
      replace hHeld := Below.refl wd.heap.size wd
      try simp only [Act.put, List.setIfInBounds_toArray, List.set_cons_zero, List.set_cons_succ]
      refine wpAnyH_take (i := 0) (v := ?_) (by simp only [List.getElem?_toArray, List.getElem?_cons_zero]; rfl) (by kernel_rfl) (by kernel_rfl) (by kernel_rfl) (by intro _ _ _ h; exact h) (Or.inl ⟨by rfl, ?_⟩) hHeld ?_
      rotate_left 1
      · intro wq hSw
        try dsimp only at hSw
        obtain ⟨x0, x1, x2, x3, x4, _⟩ := (Ba.under hSw).five
        go_simp
        try (with_reducible rfl)
      try simp only [Act.put, List.setIfInBounds_toArray, List.set_cons_zero, List.set_cons_succ]
      refine wpAnyH_take (i := 1) (v := ?_) (by simp only [List.getElem?_toArray, List.getElem?_cons_succ, List.getElem?_cons_zero]; rfl) (by kernel_rfl) (by kernel_rfl) (by kernel_rfl) (by intro _ _ _ h; exact h) (Or.inl ⟨by rfl, ?_⟩) hHeld ?_
      rotate_left 1
      · intro wq hSw
        try dsimp only at hSw
        obtain ⟨x0, x1, x2, x3, x4, _⟩ := (Bb.under hSw).five
        go_simp
        try (with_reducible rfl)
      try simp only [Act.put, List.setIfInBounds_toArray, List.set_cons_zero, List.set_cons_succ]
      refine wpAnyH_ready (rs := [2]) (by kernel_rfl) (by simp) ?_
      refine AllReadyH.cons (by simp only [List.getElem?_toArray, List.getElem?_cons_succ, List.getElem?_cons_zero]; rfl) (fun K hK => ?_) AllReadyH.nil
      have hC := refSame4_eq 0 0 0 false none 0 0 none 0 [] wd (Zs.nil (fun _ => True) _) (Zs.nil (fun _ => True) _) (by omega)
      go_simp
      refine hC.mono ?_
      clear hC
      rintro e y1 ⟨rfl, c1⟩
      go_wp2_with fail
      refine hK.out _ _ (c1) (fun _ => wpAnyH_stronger (S' := fun w' => Below y1.heap.size y1 w') (fun w' h => Below.trans (c1) (h.mono (c1).size)) _ _ _ _ ?_)
      clear hK K hHeld
      have hHeld := Below.refl y1.heap.size y1
      replace z0 := z0.below c1
      replace s1 := s1.below c1
      replace Bd := Bd.under c1
      replace Ba := Ba.under c1
      replace Bb := Bb.under c1
      replace bb := bb.trans (c1.mono bb.size)
      try simp only [Act.put, List.setIfInBounds_toArray, List.set_cons_zero, List.set_cons_succ]
      refine wpAnyH_take (i := 3) (v := ?_) (by simp only [List.getElem?_toArray, List.getElem?_cons_succ, List.getElem?_cons_zero]; rfl) (by kernel_rfl) (by kernel_rfl) (by kernel_rfl) (by intro _ _ _ h; exact h) (Or.inl ⟨by rfl, ?_⟩) hHeld ?_
      rotate_left 1
      · intro wq hSw
        try dsimp only at hSw
        go_simp
        try (with_reducible rfl)
      try simp only [Act.put, List.setIfInBounds_toArray, List.set_cons_zero, List.set_cons_succ]
      refine wpAnyH_take (i := 4) (v := ?_) (by simp only [List.getElem?_toArray, List.getElem?_cons_succ, List.getElem?_cons_zero]; rfl) (by kernel_rfl) (by kernel_rfl) (by kernel_rfl) (by intro _ _ _ h; exact h) (Or.inl ⟨by rfl, ?_⟩) hHeld ?_
      rotate_left 1
      · intro wq hSw
        try dsimp only at hSw
        obtain ⟨x0, x1, x2, x3, x4, _⟩ := (Bd.under hSw).five
        go_simp
        try (with_reducible rfl)
      try simp only [Act.put, List.setIfInBounds_toArray, List.set_cons_zero, List.set_cons_succ]
      refine wpAnyH_take (i := 5) (v := ?_) (by simp only [List.getElem?_toArray, List.getElem?_cons_succ, List.getElem?_cons_zero]; rfl) (by kernel_rfl) (by kernel_rfl) (by kernel_rfl) (by intro _ _ _ h; exact h) (Or.inl ⟨by rfl, ?_⟩) hHeld ?_
      rotate_left 1
      · intro wq hSw
        try dsimp only at hSw
        go_simp
        try (with_reducible rfl)
      try simp only [Act.put, List.setIfInBounds_toArray, List.set_cons_zero, List.set_cons_succ]
      refine wpAnyH_take (i := 7) (v := ?_) (by simp only [List.getElem?_toArray, List.getElem?_cons_succ, List.getElem?_cons_zero]; rfl) (by kernel_rfl) (by kernel_rfl) (by kernel_rfl) (by intro _ _ _ h; exact h) (Or.inl ⟨by rfl, ?_⟩) hHeld ?_
      rotate_left 1
      · intro wq hSw
        try dsimp only at hSw
        obtain ⟨x0, x1, x2, x3, x4, _⟩ := (Bd.under hSw).five
        go_simp
        try (with_reducible rfl)
      try simp only [Act.put, List.setIfInBounds_toArray, List.set_cons_zero, List.set_cons_succ]
      refine wpAnyH_take (i := 8) (v := ?_) (by simp only [List.getElem?_toArray, List.getElem?_cons_succ, List.getElem?_cons_zero]; rfl) (by kernel_rfl) (by kernel_rfl) (by kernel_rfl) (by intro _ _ _ h; exact h) (Or.inl ⟨by rfl, ?_⟩) hHeld ?_
      rotate_left 1
      · intro wq hSw
        try dsimp only at hSw
        go_simp
        try (with_reducible rfl)
      try simp only [Act.put, List.setIfInBounds_toArray, List.set_cons_zero, List.set_cons_succ]
      refine wpAnyH_ready (rs := [6]) (by kernel_rfl) (by simp) ?_
      refine AllReadyH.cons (by simp only [List.getElem?_toArray, List.getElem?_cons_succ, List.getElem?_cons_zero]; rfl) (fun K hK => ?_) AllReadyH.nil
      have hC := dCrash_at size lf dn dw A n c zs Ak nk ck ks Lf Dw Zz y1 z0 hsm s1 hfk hLf.out hDw.out hZz.out
      go_simp
      refine hC.mono ?_
      clear hC
      rintro e y2 ⟨A6, rfl, z6, c2⟩
      go_wp2_with fail
      refine hK.out _ _ (c2) (fun _ => wpAnyH_stronger (S' := fun w' => Below y2.heap.size y2 w') (fun w' h => Below.trans (c2) (h.mono (c2).size)) _ _ _ _ ?_)
      clear hK K hHeld
      have hHeld := Below.refl y2.heap.size y2
      replace z0 := z0.below c2
      replace s1 := s1.below c2
      replace Bd := Bd.under c2
      replace Ba := Ba.under c2
      replace Bb := Bb.under c2
      replace bb := bb.trans (c2.mono bb.size)
      try simp only [Act.put, List.setIfInBounds_toArray, List.set_cons_zero, List.set_cons_succ]
      refine wpAnyH_ready (rs := [9]) (by kernel_rfl) (by simp) ?_
      refine AllReadyH.cons (by simp only [List.getElem?_toArray, List.getElem?_cons_succ, List.getElem?_cons_zero]; rfl) (fun K hK => ?_) AllReadyH.nil
      have hC := refCrash4_at size lf dn dw A n c zs Ak nk ck ks Lf Dw Zz y2 z0 hsm s1 hfk hLf.out hDw.out hZz.out
      go_simp
      refine hC.mono ?_
      clear hC
      rintro e y3 ⟨A7, c7, rfl, z7, c3⟩
      go_wp2_with fail
      refine hK.out _ _ (c3) (fun _ => wpAnyH_stronger (S' := fun w' => Below y3.heap.size y3 w') (fun w' h => Below.trans (c3) (h.mono (c3).size)) _ _ _ _ ?_)
      clear hK K hHeld
      have hHeld := Below.refl y3.heap.size y3
      replace z0 := z0.below c3
      replace s1 := s1.below c3
      replace Bd := Bd.under c3
      replace Ba := Ba.under c3
      replace Bb := Bb.under c3
      replace z6 := z6.below c3
      replace bb := bb.trans (c3.mono bb.size)
      try simp only [Act.put, List.setIfInBounds_toArray, List.set_cons_zero, List.set_cons_succ]
      refine wpAnyH_ready (rs := [10]) (by kernel_rfl) (by simp) ?_
      refine AllReadyH.cons (by simp only [List.getElem?_toArray, List.getElem?_cons_succ, List.getElem?_cons_zero]; rfl) (fun K hK => ?_) AllReadyH.nil
      have hC := refSame4_eq size Lf dn Dw A6 n n A7 c7 Zz y3 z6 z7 hn100
      go_simp
      refine hC.mono ?_
      clear hC
      rintro e y4 ⟨rfl, c4⟩
      go_wp2_with fail
      refine hK.out _ _ (c4) (fun _ => wpAnyH_stronger (S' := fun w' => Below y4.heap.size y4 w') (fun w' h => Below.trans (c4) (h.mono (c4).size)) _ _ _ _ ?_)
      clear hK K hHeld
      have hHeld := Below.refl y4.heap.size y4
      replace z0 := z0.below c4
      replace s1 := s1.below c4
      replace Bd := Bd.under c4
      replace Ba := Ba.under c4
      replace Bb := Bb.under c4
      replace z6 := z6.below c4
      replace z7 := z7.below c4
      replace bb := bb.trans (c4.mono bb.size)
      try simp only [Act.put, List.setIfInBounds_toArray, List.set_cons_zero, List.set_cons_succ]
      refine wpAnyH_take (i := 11) (v := ?_) (by simp only [List.getElem?_toArray, List.getElem?_cons_succ, List.getElem?_cons_zero]; rfl) (by kernel_rfl) (by kernel_rfl) (by kernel_rfl) (by intro _ _ _ h; exact h) (Or.inl ⟨by rfl, ?_⟩) hHeld ?_
      rotate_left 1
      · intro wq hSw
        try dsimp only at hSw
        go_simp
        try (with_reducible rfl)
      try simp only [Act.put, List.setIfInBounds_toArray, List.set_cons_zero, List.set_cons_succ]
      refine wpAnyH_take (i := 12) (v := ?_) (by simp only [List.getElem?_toArray, List.getElem?_cons_succ, List.getElem?_cons_zero]; rfl) (by kernel_rfl) (by kernel_rfl) (by kernel_rfl) (by intro _ _ _ h; exact h) (Or.inl ⟨by rfl, ?_⟩) hHeld ?_
      rotate_left 1
      · intro wq hSw
        try dsimp only at hSw
        go_simp
        try (with_reducible rfl)
      try simp only [Act.put, List.setIfInBounds_toArray, List.set_cons_zero, List.set_cons_succ]
      refine wpAnyH_take (i := 13) (v := ?_) (by simp only [List.getElem?_toArray, List.getElem?_cons_succ, List.getElem?_cons_zero]; rfl) (by kernel_rfl) (by kernel_rfl) (by kernel_rfl) (by intro _ _ _ h; exact h) (Or.inl ⟨by rfl, ?_⟩) hHeld ?_
      rotate_left 1
      · intro wq hSw
        try dsimp only at hSw
        obtain ⟨x0, x1, x2, x3, x4, _⟩ := (Bd.under hSw).five
        go_simp
        try (with_reducible rfl)
      try simp only [Act.put, List.setIfInBounds_toArray, List.set_cons_zero, List.set_cons_succ]
      refine wpAnyH_take (i := 14) (v := ?_) (by simp only [List.getElem?_toArray, List.getElem?_cons_succ, List.getElem?_cons_zero]; rfl) (by kernel_rfl) (by kernel_rfl) (by kernel_rfl) (by intro _ _ _ h; exact h) (Or.inl ⟨by rfl, ?_⟩) hHeld ?_
      rotate_left 1
      · intro wq hSw
        try dsimp only at hSw
        go_simp
        try (with_reducible rfl)
      try simp only [Act.put, List.setIfInBounds_toArray, List.set_cons_zero, List.set_cons_succ]
      refine wpAnyH_take (i := 16) (v := ?_) (by simp only [List.getElem?_toArray, List.getElem?_cons_succ, List.getElem?_cons_zero]; rfl) (by kernel_rfl) (by kernel_rfl) (by kernel_rfl) (by intro _ _ _ h; exact h) (Or.inl ⟨by rfl, ?_⟩) hHeld ?_
      rotate_left 1
      · intro wq hSw
        try dsimp only at hSw
        obtain ⟨x0, x1, x2, x3, x4, _⟩ := (Bd.under hSw).five
        go_simp
        try (with_reducible rfl)
      try simp only [Act.put, List.setIfInBounds_toArray, List.set_cons_zero, List.set_cons_succ]
      refine wpAnyH_take (i := 17) (v := ?_) (by simp only [List.getElem?_toArray, List.getElem?_cons_succ, List.getElem?_cons_zero]; rfl) (by kernel_rfl) (by kernel_rfl) (by kernel_rfl) (by intro _ _ _ h; exact h) (Or.inl ⟨by rfl, ?_⟩) hHeld ?_
      rotate_left 1
      · intro wq hSw
        try dsimp only at hSw
        go_simp
        try (with_reducible rfl)
      try simp only [Act.put, List.setIfInBounds_toArray, List.set_cons_zero, List.set_cons_succ]
      refine wpAnyH_ready (rs := [15]) (by kernel_rfl) (by simp) ?_
      refine AllReadyH.cons (by simp only [List.getElem?_toArray, List.getElem?_cons_succ, List.getElem?_cons_zero]; rfl) (fun K hK => ?_) AllReadyH.nil
      have hC := dLimit_at size lf dn x dw A n c zs y4 z0 hsm
      go_simp
      refine hC.mono ?_
      clear hC
      rintro e y5 ⟨A8, rfl, z8, c5⟩
      go_wp2_with fail
      refine hK.out _ _ (c5) (fun _ => wpAnyH_stronger (S' := fun w' => Below y5.heap.size y5 w') (fun w' h => Below.trans (c5) (h.mono (c5).size)) _ _ _ _ ?_)
      clear hK K hHeld
      have hHeld := Below.refl y5.heap.size y5
      replace z0 := z0.below c5
      replace s1 := s1.below c5
      replace Bd := Bd.under c5
      replace Ba := Ba.under c5
      replace Bb := Bb.under c5
      replace z6 := z6.below c5
      replace z7 := z7.below c5
      replace bb := bb.trans (c5.mono bb.size)
      try simp only [Act.put, List.setIfInBounds_toArray, List.set_cons_zero, List.set_cons_succ]
      refine wpAnyH_ready (rs := [18]) (by kernel_rfl) (by simp) ?_
      refine AllReadyH.cons (by simp only [List.getElem?_toArray, List.getElem?_cons_succ, List.getElem?_cons_zero]; rfl) (fun K hK => ?_) AllReadyH.nil
      have hC := refLimit4_any size lf dn x dw A n c zs y5 z0 hsm
      go_simp
      refine hC.mono ?_
      clear hC
      rintro e y6 ⟨A9, c9, rfl, z9, c6⟩
      go_wp2_with fail
      refine hK.out _ _ (c6) (fun _ => wpAnyH_stronger (S' := fun w' => Below y6.heap.size y6 w') (fun w' h => Below.trans (c6) (h.mono (c6).size)) _ _ _ _ ?_)
      clear hK K hHeld
      have hHeld := Below.refl y6.heap.size y6
      replace z0 := z0.below c6
      replace s1 := s1.below c6
      replace Bd := Bd.under c6
      replace Ba := Ba.under c6
      replace Bb := Bb.under c6
      replace z6 := z6.below c6
      replace z7 := z7.below c6
      replace z8 := z8.below c6
      replace bb := bb.trans (c6.mono bb.size)
      try simp only [Act.put, List.setIfInBounds_toArray, List.set_cons_zero, List.set_cons_succ]
      refine wpAnyH_ready (rs := [19]) (by kernel_rfl) (by simp) ?_
      refine AllReadyH.cons (by simp only [List.getElem?_toArray, List.getElem?_cons_succ, List.getElem?_cons_zero]; rfl) (fun K hK => ?_) AllReadyH.nil
      have hC := refSame4_eq size x dn dw A8 n n A9 c9 zs y6 z8 z9 hn100
      go_simp
      refine hC.mono ?_
      clear hC
      rintro e y7 ⟨rfl, c7⟩
      go_wp2_with fail
      refine hK.out _ _ (c7) (fun _ => wpAnyH_stronger (S' := fun w' => Below y7.heap.size y7 w') (fun w' h => Below.trans (c7) (h.mono (c7).size)) _ _ _ _ ?_)
      clear hK K hHeld
      have hHeld := Below.refl y7.heap.size y7
      replace z0 := z0.below c7
      replace s1 := s1.below c7
      replace Bd := Bd.under c7
      replace Ba := Ba.under c7
      replace Bb := Bb.under c7
      replace z6 := z6.below c7
      replace z7 := z7.below c7
      replace z8 := z8.below c7
      replace z9 := z9.below c7
      replace bb := bb.trans (c7.mono bb.size)
      try simp only [Act.put, List.setIfInBounds_toArray, List.set_cons_zero, List.set_cons_succ]
      refine wpAnyH_take (i := 20) (v := ?_) (by simp only [List.getElem?_toArray, List.getElem?_cons_succ, List.getElem?_cons_zero]; rfl) (by kernel_rfl) (by kernel_rfl) (by kernel_rfl) (by intro _ _ _ h; exact h) (Or.inl ⟨by rfl, ?_⟩) hHeld ?_
      rotate_left 1
      · intro wq hSw
        try dsimp only at hSw
        go_simp
        try (with_reducible rfl)
      try simp only [Act.put, List.setIfInBounds_toArray, List.set_cons_zero, List.set_cons_succ]
      refine wpAnyH_take (i := 21) (v := ?_) (by simp only [List.getElem?_toArray, List.getElem?_cons_succ, List.getElem?_cons_zero]; rfl) (by kernel_rfl) (by kernel_rfl) (by kernel_rfl) (by intro _ _ _ h; exact h) (Or.inl ⟨by rfl, ?_⟩) hHeld ?_
      rotate_left 1
      · intro wq hSw
        try dsimp only at hSw
        go_simp
        try (with_reducible rfl)
      try simp only [Act.put, List.setIfInBounds_toArray, List.set_cons_zero, List.set_cons_succ]
      refine wpAnyH_done (by kernel_rfl) ?_ _
      have qn := str_of (l := []) (Sl.nil y7)
      go_wp2
      go_ret
      exact ⟨rfl, bb⟩
    · skip
      obtain ⟨l1, hl1⟩ : ∃ t, Hid (rdF size zs x y zz = t) := ⟨_, rfl⟩
      obtain ⟨k1, hk1⟩ : ∃ t, Hid (l1.length = t) := ⟨_, rfl⟩
      have hC := dRead_ok size lf dn dw A n c zs x y zz l1 k1 v2 z0 hsm hy1 hz1 ho hl1.out hk1.out
      refine hC.mono ?_
      clear hC
      rintro e w5 ⟨Ax, cx, rfl, Nx, b5⟩
      replace z0 := z0.below b5
      replace s1 := s1.below b5
      replace Bd := Bd.under b5
      replace Ba := Ba.under b5
      replace Bb := Bb.under b5
      replace bb := bb.trans (b5.mono bb.size)
      have sx := Nx.sl
      obtain ⟨Bdq0, Bdq1, Bdq2, Bdq3, Bdq4, Bdr0, Bdr1, Bdr2, Bdr3, Bdr4⟩ := Bd.five
      have Bdl := Bd.lt
      go_wp2_with fail
      clear Bdq0 Bdq1 Bdq2 Bdq3 Bdq4 Bdr0 Bdr1 Bdr2 Bdr3 Bdr4
      have hC := refRead4_ok size lf dn dw A n c zs x y zz l1 k1 w5 z0 hsm hy1 hz1 ho hl1.out hk1.out
      refine hC.mono ?_
      clear hC
      rintro e w6 ⟨Ay, cy, rfl, Ny, b6⟩
      replace z0 := z0.below b6
      replace s1 := s1.below b6
      replace Bd := Bd.under b6
      replace Ba := Ba.under b6
      replace Bb := Bb.under b6
      replace sx := sx.below b6
      replace bb := bb.trans (b6.mono bb.size)
      have sy := Ny.sl
      go_wp2_with fail
      refine wp_region_held_drew (S := fun w' => Below w6.heap.size w6 w') (by kernel_rfl) (Below.refl _ _).drew (fun hHeld => ?_)
      try dsimp only at hHeld
      have bd : Below w6.heap.size w6 w6.drew := (Below.refl w6.heap.size w6).drew
      replace z0 := z0.below bd
      replace s1 := s1.below bd
      replace Bd := Bd.under bd
      replace Ba := Ba.under bd
      replace Bb := Bb.under bd
      replace sx := sx.below bd
      replace sy := sy.below bd
      replace bb := bb.trans (bd.mono bb.size)
      generalize w6.drew = wd at *
      refine wpAnyH_stronger (S' := fun w' => Below wd.heap.size wd w') (fun w' h => Below.trans bd (h.mono bd.size)) _ _ _ _ ?_
      replace hHeld := Below.refl wd.heap.size wd
      try simp only [Act.put, List.setIfInBounds_toArray, List.set_cons_zero, List.set_cons_succ]
      refine wpAnyH_take (i := 0) (v := ?_) (by simp only [List.getElem?_toArray, List.getElem?_cons_zero]; rfl) (by kernel_rfl) (by kernel_rfl) (by kernel_rfl) (by intro _ _ _ h; exact h) (Or.inl ⟨by rfl, ?_⟩) hHeld ?_
      rotate_left 1
      · intro wq hSw
        try dsimp only at hSw
        obtain ⟨x0, x1, x2, x3, x4, _⟩ := (Ba.under hSw).five
        go_simp
        try (with_reducible rfl)
      try simp only [Act.put, List.setIfInBounds_toArray, List.set_cons_zero, List.set_cons_succ]
      refine wpAnyH_take (i := 1) (v := ?_) (by simp only [List.getElem?_toArray, List.getElem?_cons_succ, List.getElem?_cons_zero]; rfl) (by kernel_rfl) (by kernel_rfl) (by kernel_rfl) (by intro _ _ _ h; exact h) (Or.inl ⟨by rfl, ?_⟩) hHeld ?_
      rotate_left 1
      · intro wq hSw
        try dsimp only at hSw
        obtain ⟨x0, x1, x2, x3, x4, _⟩ := (Bb.under hSw).five
        go_simp
        try (with_reducible rfl)
      try simp only [Act.put, List.setIfInBounds_toArray, List.set_cons_zero, List.set_cons_succ]
      refine wpAnyH_ready (rs := [2]) (by kernel_rfl) (by simp) ?_
      refine AllReadyH.cons (by simp only [List.getElem?_toArray, List.getElem?_cons_succ, List.getElem?_cons_zero]; rfl) (fun K hK => ?_) AllReadyH.nil
      have hC := refSame4_eq 0 0 0 false none 0 0 none 0 [] wd (Zs.nil (fun _ => True) _) (Zs.nil (fun _ => True) _) (by omega)
      go_simp
      refine hC.mono ?_
      clear hC
      rintro e y1 ⟨rfl, c1⟩
      go_wp2_with fail
      refine hK.out _ _ (c1) (fun _ => wpAnyH_stronger (S' := fun w' => Below y1.heap.size y1 w') (fun w' h => Below.trans (c1) (h.mono (c1).size)) _ _ _ _ ?_)
      clear hK K hHeld
      have hHeld := Below.refl y1.heap.size y1
      replace z0 := z0.below c1
      replace s1 := s1.below c1
      replace Bd := Bd.under c1
      replace Ba := Ba.under c1
      replace Bb := Bb.under c1
      replace sx := sx.below c1
      replace sy := sy.below c1
      replace bb := bb.trans (c1.mono bb.size)
      try simp only [Act.put, List.setIfInBounds_toArray, List.set_cons_zero, List.set_cons_succ]
      refine wpAnyH_take (i := 3) (v := ?_) (by simp only [List.getElem?_toArray, List.getElem?_cons_succ, List.getElem?_cons_zero]; rfl) (by kernel_rfl) (by kernel_rfl) (by kernel_rfl) (by intro _ _ _ h; exact h) (Or.inl ⟨by rfl, ?_⟩) hHeld ?_
      rotate_left 1
      · intro wq hSw
        try dsimp only at hSw
        go_simp
        try (with_reducible rfl)
      try simp only [Act.put, List.setIfInBounds_toArray, List.set_cons_zero, List.set_cons_succ]
      refine wpAnyH_take (i := 4) (v := ?_) (by simp only [List.getElem?_toArray, List.getElem?_cons_succ, List.getElem?_cons_zero]; rfl) (by kernel_rfl) (by kernel_rfl) (by kernel_rfl) (by intro _ _ _ h; exact h) (Or.inl ⟨by rfl, ?_⟩) hHeld ?_
      rotate_left 1
      · intro wq hSw
        try dsimp only at hSw
        obtain ⟨x0, x1, x2, x3, x4, _⟩ := (Bd.under hSw).five
        go_simp
        try (with_reducible rfl)
      try simp only [Act.put, List.setIfInBounds_toArray, List.set_cons_zero, List.set_cons_succ]
      refine wpAnyH_take (i := 5) (v := ?_) (by simp only [List.getElem?_toArray, List.getElem?_cons_succ, List.getElem?_cons_zero]; rfl) (by kernel_rfl) (by kernel_rfl) (by kernel_rfl) (by intro _ _ _ h; exact h) (Or.inl ⟨by rfl, ?_⟩) hHeld ?_
      rotate_left 1
      · intro wq hSw
        try dsimp only at hSw
        go_simp
        try (with_reducible rfl)
      try simp only [Act.put, List.setIfInBounds_toArray, List.set_cons_zero, List.set_cons_succ]
      refine wpAnyH_take (i := 7) (v := ?_) (by simp only [List.getElem?_toArray, List.getElem?_cons_succ, List.getElem?_cons_zero]; rfl) (by kernel_rfl) (by kernel_rfl) (by kernel_rfl) (by intro _ _ _ h; exact h) (Or.inl ⟨by rfl, ?_⟩) hHeld ?_
      rotate_left 1
      · intro wq hSw
        try dsimp only at hSw
        obtain ⟨x0, x1, x2, x3, x4, _⟩ := (Bd.under hSw).five
        go_simp
        try (with_reducible rfl)
      try simp only [Act.put, List.setIfInBounds_toArray, List.set_cons_zero, List.set_cons_succ]
      refine wpAnyH_take (i := 8) (v := ?_) (by simp only [List.getElem?_toArray, List.getElem?_cons_succ, List.getElem?_cons_zero]; rfl) (by kernel_rfl) (by kernel_rfl) (by kernel_rfl) (by intro _ _ _ h; exact h) (Or.inl ⟨by rfl, ?_⟩) hHeld ?_
      rotate_left 1
      · intro wq hSw
        try dsimp only at hSw
        go_simp
        try (with_reducible rfl)
      try simp only [Act.put, List.setIfInBounds_toArray, List.set_cons_zero, List.set_cons_succ]
      refine wpAnyH_ready (rs := [6]) (by kernel_rfl) (by simp) ?_
      refine AllReadyH.cons (by simp only [List.getElem?_toArray, List.getElem?_cons_succ, List.getElem?_cons_zero]; rfl) (fun K hK => ?_) AllReadyH.nil
      have hC := dCrash_at size lf dn dw A n c zs Ak nk ck ks Lf Dw Zz y1 z0 hsm s1 hfk hLf.out hDw.out hZz.out
      go_simp
      refine hC.mono ?_
      clear hC
      rintro e y2 ⟨A6, rfl, z6, c2⟩
      go_wp2_with fail
      refine hK.out _ _ (c2) (fun _ => wpAnyH_stronger (S' := fun w' => Below y2.heap.size y2 w') (fun w' h => Below.trans (c2) (h.mono (c2).size)) _ _ _ _ ?_)
      clear hK K hHeld
      have hHeld := Below.refl y2.heap.size y2
      replace z0 := z0.below c2
      replace s1 := s1.below c2
      replace Bd := Bd.under c2
      replace Ba := Ba.under c2
      replace Bb := Bb.under c2
      replace sx := sx.below c2
      replace sy := sy.below c2
      replace bb := bb.trans (c2.mono bb.size)
      try simp only [Act.put, List.setIfInBounds_toArray, List.set_cons_zero, List.set_cons_succ]
      refine wpAnyH_ready (rs := [9]) (by kernel_rfl) (by simp) ?_
      refine AllReadyH.cons (by simp only [List.getElem?_toArray, List.getElem?_cons_succ, List.getElem?_cons_zero]; rfl) (fun K hK => ?_) AllReadyH.nil
      have hC := refCrash4_at size lf dn dw A n c zs Ak nk ck ks Lf Dw Zz y2 z0 hsm s1 hfk hLf.out hDw.out hZz.out
      go_simp
      refine hC.mono ?_
      clear hC
      rintro e y3 ⟨A7, c7, rfl, z7, c3⟩
      go_wp2_with fail
      refine hK.out _ _ (c3) (fun _ => wpAnyH_stronger (S' := fun w' => Below y3.heap.size y3 w') (fun w' h => Below.trans (c3) (h.mono (c3).size)) _ _ _ _ ?_)
      clear hK K hHeld
      have hHeld := Below.refl y3.heap.size y3
      replace z0 := z0.below c3
      replace s1 := s1.below c3
      replace Bd := Bd.under c3
      replace Ba := Ba.under c3
      replace Bb := Bb.under c3
      replace sx := sx.below c3
      replace sy := sy.below c3
      replace z6 := z6.below c3
      replace bb := bb.trans (c3.mono bb.size)
      try simp only [Act.put, List.setIfInBounds_toArray, List.set_cons_zero, List.set_cons_succ]
      refine wpAnyH_ready (rs := [10]) (by kernel_rfl) (by simp) ?_
      refine AllReadyH.cons (by simp only [List.getElem?_toArray, List.getElem?_cons_succ, List.getElem?_cons_zero]; rfl) (fun K hK => ?_) AllReadyH.nil
      have hC := refSame4_eq size Lf dn Dw A6 n n A7 c7 Zz y3 z6 z7 hn100
      go_simp
      refine hC.mono ?_
      clear hC
      rintro e y4 ⟨rfl, c4⟩
      go_wp2_with fail
      refine hK.out _ _ (c4) (fun _ => wpAnyH_stronger (S' := fun w' => Below y4.heap.size y4 w') (fun w' h => Below.trans (c4) (h.mono (c4).size)) _ _ _ _ ?_)
      clear hK K hHeld
      have hHeld := Below.refl y4.heap.size y4
      replace z0 := z0.below c4
      replace s1 := s1.below c4
      replace Bd := Bd.under c4
      replace Ba := Ba.under c4
      replace Bb := Bb.under c4
      replace sx := sx.below c4
      replace sy := sy.below c4
      replace z6 := z6.below c4
      replace z7 := z7.below c4
      replace bb := bb.trans (c4.mono bb.size)
      try simp only [Act.put, List.setIfInBounds_toArray, List.set_cons_zero, List.set_cons_succ]
      refine wpAnyH_take (i := 11) (v := ?_) (by simp only [List.getElem?_toArray, List.getElem?_cons_succ, List.getElem?_cons_zero]; rfl) (by kernel_rfl) (by kernel_rfl) (by kernel_rfl) (by intro _ _ _ h; exact h) (Or.inl ⟨by rfl, ?_⟩) hHeld ?_
      rotate_left 1
      · intro wq hSw
        try dsimp only at hSw
        go_simp
        try (with_reducible rfl)
      try simp only [Act.put, List.setIfInBounds_toArray, List.set_cons_zero, List.set_cons_succ]
      refine wpAnyH_take (i := 12) (v := ?_) (by simp only [List.getElem?_toArray, List.getElem?_cons_succ, List.getElem?_cons_zero]; rfl) (by kernel_rfl) (by kernel_rfl) (by kernel_rfl) (by intro _ _ _ h; exact h) (Or.inl ⟨by rfl, ?_⟩) hHeld ?_
      rotate_left 1
      · intro wq hSw
        try dsimp only at hSw
        go_simp
        try (with_reducible rfl)
      try simp only [Act.put, List.setIfInBounds_toArray, List.set_cons_zero, List.set_cons_succ]
      refine wpAnyH_take (i := 13) (v := ?_) (by simp only [List.getElem?_toArray, List.getElem?_cons_succ, List.getElem?_cons_zero]; rfl) (by kernel_rfl) (by kernel_rfl) (by kernel_rfl) (by intro _ _ _ h; exact h) (Or.inl ⟨by rfl, ?_⟩) hHeld ?_
      rotate_left 1
      · intro wq hSw
        try dsimp only at hSw
        obtain ⟨x0, x1, x2, x3, x4, _⟩ := (Bd.under hSw).five
        go_simp
        try (with_reducible rfl)
      try simp only [Act.put, List.setIfInBounds_toArray, List.set_cons_zero, List.set_cons_succ]
      refine wpAnyH_take (i := 14) (v := ?_) (by simp only [List.getElem?_toArray, List.getElem?_cons_succ, List.getElem?_cons_zero]; rfl) (by kernel_rfl) (by kernel_rfl) (by kernel_rfl) (by intro _ _ _ h; exact h) (Or.inl ⟨by rfl, ?_⟩) hHeld ?_
      rotate_left 1
      · intro wq hSw
        try dsimp only at hSw
        go_simp
        try (with_reducible rfl)
      try simp only [Act.put, List.setIfInBounds_toArray, List.set_cons_zero, List.set_cons_succ]
      refine wpAnyH_take (i := 16) (v := ?_) (by simp only [List.getElem?_toArray, List.getElem?_cons_succ, List.getElem?_cons_zero]; rfl) (by kernel_rfl) (by kernel_rfl) (by kernel_rfl) (by intro _ _ _ h; exact h) (Or.inl ⟨by rfl, ?_⟩) hHeld ?_
      rotate_left 1
      · intro wq hSw
        try dsimp only at hSw
        obtain ⟨x0, x1, x2, x3, x4, _⟩ := (Bd.under hSw).five
        go_simp
        try (with_reducible rfl)
      try simp only [Act.put, List.setIfInBounds_toArray, List.set_cons_zero, List.set_cons_succ]
      refine wpAnyH_take (i := 17) (v := ?_) (by simp only [List.getElem?_toArray, List.getElem?_cons_succ, List.getElem?_cons_zero]; rfl) (by kernel_rfl) (by kernel_rfl) (by kernel_rfl) (by intro _ _ _ h; exact h) (Or.inl ⟨by rfl, ?_⟩) hHeld ?_
      rotate_left 1
      · intro wq hSw
        try dsimp only at hSw
        go_simp
        try (with_reducible rfl)
      try simp only [Act.put, List.setIfInBounds_toArray, List.set_cons_zero, List.set_cons_succ]
      refine wpAnyH_ready (rs := [15]) (by kernel_rfl) (by simp) ?_
      refine AllReadyH.cons (by simp only [List.getElem?_toArray, List.getElem?_cons_succ, List.getElem?_cons_zero]; rfl) (fun K hK => ?_) AllReadyH.nil
      have hC := dLimit_at size lf dn x dw A n c zs y4 z0 hsm
      go_simp
      refine hC.mono ?_
      clear hC
      rintro e y5 ⟨A8, rfl, z8, c5⟩
      go_wp2_with fail
      refine hK.out _ _ (c5) (fun _ => wpAnyH_stronger (S' := fun w' => Below y5.heap.size y5 w') (fun w' h => Below.trans (c5) (h.mono (c5).size)) _ _ _ _ ?_)
      clear hK K hHeld
      have hHeld := Below.refl y5.heap.size y5
      replace z0 := z0.below c5
      replace s1 := s1.below c5
      replace Bd := Bd.under c5
      replace Ba := Ba.under c5
      replace Bb := Bb.under c5
      replace sx := sx.below c5
      replace sy := sy.below c5
      replace z6 := z6.below c5
      replace z7 := z7.below c5
      replace bb := bb.trans (c5.mono bb.size)
      try simp only [Act.put, List.setIfInBounds_toArray, List.set_cons_zero, List.set_cons_succ]
      refine wpAnyH_ready (rs := [18]) (by kernel_rfl) (by simp) ?_
      refine AllReadyH.cons (by simp only [List.getElem?_toArray, List.getElem?_cons_succ, List.getElem?_cons_zero]; rfl) (fun K hK => ?_) AllReadyH.nil
      have hC := refLimit4_any size lf dn x dw A n c zs y5 z0 hsm
      go_simp
      refine hC.mono ?_
      clear hC
      rintro e y6 ⟨A9, c9, rfl, z9, c6⟩
      go_wp2_with fail
      refine hK.out _ _ (c6) (fun _ => wpAnyH_stronger (S' := fun w' => Below y6.heap.size y6 w') (fun w' h => Below.trans (c6) (h.mono (c6).size)) _ _ _ _ ?_)
      clear hK K hHeld
      have hHeld := Below.refl y6.heap.size y6
      replace z0 := z0.below c6
      replace s1 := s1.below c6
      replace Bd := Bd.under c6
      replace Ba := Ba.under c6
      replace Bb := Bb.under c6
      replace sx := sx.below c6
      replace sy := sy.below c6
      replace z6 := z6.below c6
      replace z7 := z7.below c6
      replace z8 := z8.below c6
      replace bb := bb.trans (c6.mono bb.size)
      try simp only [Act.put, List.setIfInBounds_toArray, List.set_cons_zero, List.set_cons_succ]
      refine wpAnyH_ready (rs := [19]) (by kernel_rfl) (by simp) ?_
      refine AllReadyH.cons (by simp only [List.getElem?_toArray, List.getElem?_cons_succ, List.getElem?_cons_zero]; rfl) (fun K hK => ?_) AllReadyH.nil
      have hC := refSame4_eq size x dn dw A8 n n A9 c9 zs y6 z8 z9 hn100
      go_simp
      refine hC.mono ?_
      clear hC
      rintro e y7 ⟨rfl, c7⟩
      go_wp2_with fail
      refine hK.out _ _ (c7) (fun _ => wpAnyH_stronger (S' := fun w' => Below y7.heap.size y7 w') (fun w' h => Below.trans (c7) (h.mono (c7).size)) _ _ _ _ ?_)
      clear hK K hHeld
      have hHeld := Below.refl y7.heap.size y7
      replace z0 := z0.below c7
      replace s1 := s1.below c7
      replace Bd := Bd.under c7
      replace Ba := Ba.under c7
      replace Bb := Bb.under c7
      replace sx := sx.below c7
      replace sy := sy.below c7
      replace z6 := z6.below c7
      replace z7 := z7.below c7
      replace z8 := z8.below c7
      replace z9 := z9.below c7
      replace bb := bb.trans (c7.mono bb.size)
      try simp only [Act.put, List.setIfInBounds_toArray, List.set_cons_zero, List.set_cons_succ]
      refine wpAnyH_take (i := 20) (v := ?_) (by simp only [List.getElem?_toArray, List.getElem?_cons_succ, List.getElem?_cons_zero]; rfl) (by kernel_rfl) (by kernel_rfl) (by kernel_rfl) (by intro _ _ _ h; exact h) (Or.inl ⟨by rfl, ?_⟩) hHeld ?_
      rotate_left 1
      · intro wq hSw
        try dsimp only at hSw
        go_simp
        try (with_reducible rfl)
      try simp only [Act.put, List.setIfInBounds_toArray, List.set_cons_zero, List.set_cons_succ]
      refine wpAnyH_take (i := 21) (v := ?_) (by simp only [List.getElem?_toArray, List.getElem?_cons_succ, List.getElem?_cons_zero]; rfl) (by kernel_rfl) (by kernel_rfl) (by kernel_rfl) (by intro _ _ _ h; exact h) (Or.inl ⟨by rfl, ?_⟩) hHeld ?_
      rotate_left 1
      · intro wq hSw
        try dsimp only at hSw
        go_simp
        try (with_reducible rfl)
      try simp only [Act.put, List.setIfInBounds_toArray, List.set_cons_zero, List.set_cons_succ]
      refine wpAnyH_done (by kernel_rfl) ?_ _
      have qx := str_of sx
      have qy := str_of sy
      go_wp2
      go_ret
      exact ⟨rfl, bb⟩
  · skip
    have hm2 : 1 ≤ x ∧ x ≤ 64 ∧ 1 ≤ y ∧ y ≤ 1048576 := by simpa only [mayF, decide_eq_true_eq] using hm
    obtain ⟨m, hmz⟩ : ∃ m : Nat, x.toNat = m := ⟨_, rfl⟩
    have hmm : m ≤ 64 := by omega
    clear hm2
    have hC := dNew_at x y (List.replicate m zero4) m w2 hm (by rw [hmz]) List.length_replicate (by omega)
    refine hC.mono ?_
    clear hC
    rintro e w3 ⟨A1, rfl, za, b3⟩
    replace z0 := z0.below b3
    replace s1 := s1.below b3
    replace Bd := Bd.under b3
    replace bb := bb.trans (b3.mono bb.size)
    replace z0 := z0.alloc (.cells #[.int .i64 y, .slice A1 m m, .int .i64 (-1), .bool false, .int .i64 0] 25)
    replace s1 := s1.alloc (.cells #[.int .i64 y, .slice A1 m m, .int .i64 (-1), .bool false, .int .i64 0] 25)
    replace Bd := Bd.alloc (.cells #[.int .i64 y, .slice A1 m m, .int .i64 (-1), .bool false, .int .i64 0] 25)
    replace za := za.alloc (.cells #[.int .i64 y, .slice A1 m m, .int .i64 (-1), .bool false, .int .i64 0] 25)
    replace bb := bb.alloc bb.size (.cells #[.int .i64 y, .slice A1 m m, .int .i64 (-1), .bool false, .int .i64 0] 25)
    have Ba := Blk.new w3 #[.int .i64 y, .slice A1 m m, .int .i64 (-1), .bool false, .int .i64 0] 25
    go_wp2_with fail
    generalize (w3.alloc (.cells #[.int .i64 y, .slice A1 m m, .int .i64 (-1), .bool false, .int .i64 0] 25)) = v1 at *
    have hC := refNew4_at x y (List.replicate m zero4) m v1 hm (by rw [hmz]) List.length_replicate (by omega)
    refine hC.mono ?_
    clear hC
    rintro e w4 ⟨A2, rfl, zb, b4⟩
    replace z0 := z0.below b4
    replace s1 := s1.below b4
    replace Bd := Bd.under b4
    replace za := za.below b4
    replace Ba := Ba.under b4
    replace bb := bb.trans (b4.mono bb.size)
    obtain ⟨Bdq0, Bdq1, Bdq2, Bdq3, Bdq4, Bdr0, Bdr1, Bdr2, Bdr3, Bdr4⟩ := Bd.five
    have Bdl := Bd.lt
    replace z0 := z0.alloc (.cells #[.int .i64 y, .slice A2 m m, .int .i64 (-1), .bool false, .int .i64 0] 25)
    replace s1 := s1.alloc (.cells #[.int .i64 y, .slice A2 m m, .int .i64 (-1), .bool false, .int .i64 0] 25)
    replace Bd := Bd.alloc (.cells #[.int .i64 y, .slice A2 m m, .int .i64 (-1), .bool false, .int .i64 0] 25)
    replace za := za.alloc (.cells #[.int .i64 y, .slice A2 m m, .int .i64 (-1), .bool false, .int .i64 0] 25)
    replace Ba := Ba.alloc (.cells #[.int .i64 y, .slice A2 m m, .int .i64 (-1), .bool false, .int .i64 0] 25)
    replace zb := zb.alloc (.cells #[.int .i64 y, .slice A2 m m, .int .i64 (-1), .bool false, .int .i64 0] 25)
    replace bb := bb.alloc bb.size (.cells #[.int .i64 y, .slice A2 m m, .int .i64 (-1), .bool false, .int .i64 0] 25)
    have Bb := Blk.new w4 #[.int .i64 y, .slice A2 m m, .int .i64 (-1), .bool false, .int .i64 0] 25
    go_wp2_with fail
    clear Bdq0 Bdq1 Bdq2 Bdq3 Bdq4 Bdr0 Bdr1 Bdr2 Bdr3 Bdr4
    generalize (w4.alloc (.cells #[.int .i64 y, .slice A2 m m, .int .i64 (-1), .bool false, .int .i64 0] 25)) = v2 at *
    cases ho : rdOk size zs x y zz
    · skip
      have hC := dRead_no size lf dn dw A n c zs x y zz v2 z0 hsm hy1 hz1 ho
      refine hC.mono ?_
      clear hC
      rintro e w5 ⟨rfl, b5⟩
      replace z0 := z0.below b5
      replace s1 := s1.below b5
      replace Bd := Bd.under b5
      replace za := za.below b5
      replace Ba := Ba.under b5
      replace zb := zb.below b5
      replace Bb := Bb.under b5
      replace bb := bb.trans (b5.mono bb.size)
      obtain ⟨Bdq0, Bdq1, Bdq2, Bdq3, Bdq4, Bdr0, Bdr1, Bdr2, Bdr3, Bdr4⟩ := Bd.five
      have Bdl := Bd.lt
      go_wp2_with fail
      clear Bdq0 Bdq1 Bdq2 Bdq3 Bdq4 Bdr0 Bdr1 Bdr2 Bdr3 Bdr4
      have hC := refRead4_no size lf dn dw A n c zs x y zz w5 z0 hsm hy1 hz1 ho
      refine hC.mono ?_
      clear hC
      rintro e w6 ⟨rfl, b6⟩
      replace z0 := z0.below b6
      replace s1 := s1.below b6
      replace Bd := Bd.under b6
      replace za := za.below b6
      replace Ba := Ba.under b6
      replace zb := zb.below b6
      replace Bb := Bb.under b6
      replace bb := bb.trans (b6.mono bb.size)
      go_wp2_with fail
      refine wp_region_held_drew (S := fun w' => Below w6.heap.size w6 w') (by kernel_rfl) (Below.refl _ _).drew (fun hHeld => ?_)
      try dsimp only at hHeld
      have bd : Below w6.heap.size w6 w6.drew := (Below.refl w6.heap.size w6).drew
      replace z0 := z0.below bd
      replace s1 := s1.below bd
      replace Bd := Bd.under bd
      replace za := za.below bd
      replace Ba := Ba.under bd
      replace zb := zb.below bd
      replace Bb := Bb.under bd
      replace bb := bb.trans (bd.mono bb.size)
      generalize w6.drew = wd at *
      refine wpAnyH_stronger (S' := fun w' => Below wd.heap.size wd w') (fun w' h => Below.trans bd (h.mono bd.size)) _ _ _ _ ?_
      replace hHeld := Below.refl wd.heap.size wd
      try simp only [Act.put, List.setIfInBounds_toArray, List.set_cons_zero, List.set_cons_succ]
      refine wpAnyH_take (i := 0) (v := ?_) (by simp only [List.getElem?_toArray, List.getElem?_cons_zero]; rfl) (by kernel_rfl) (by kernel_rfl) (by kernel_rfl) (by intro _ _ _ h; exact h) (Or.inl ⟨by rfl, ?_⟩) hHeld ?_
      rotate_left 1
      · intro wq hSw
        try dsimp only at hSw
        obtain ⟨x0, x1, x2, x3, x4, _⟩ := (Ba.under hSw).five
        go_simp
        try (with_reducible rfl)
      try simp only [Act.put, List.setIfInBounds_toArray, List.set_cons_zero, List.set_cons_succ]
      refine wpAnyH_take (i := 1) (v := ?_) (by simp only [List.getElem?_toArray, List.getElem?_cons_succ, List.getElem?_cons_zero]; rfl) (by kernel_rfl) (by kernel_rfl) (by kernel_rfl) (by intro _ _ _ h; exact h) (Or.inl ⟨by rfl, ?_⟩) hHeld ?_
      rotate_left 1
      · intro wq hSw
        try dsimp only at hSw
        obtain ⟨x0, x1, x2, x3, x4, _⟩ := (Bb.under hSw).five
        go_simp
        try (with_reducible rfl)
      try simp only [Act.put, List.setIfInBounds_toArray, List.set_cons_zero, List.set_cons_succ]
      refine wpAnyH_ready (rs := [2]) (by kernel_rfl) (by simp) ?_
      refine AllReadyH.cons (by simp only [List.getElem?_toArray, List.getElem?_cons_succ, List.getElem?_cons_zero]; rfl) (fun K hK => ?_) AllReadyH.nil
      have hC := refSame4_eq y (-1) 0 false A1 m m A2 m (List.replicate m zero4) wd za zb (by omega)
      go_simp
      refine hC.mono ?_
      clear hC
      rintro e y1 ⟨rfl, c1⟩
      go_wp2_with fail
      refine hK.out _ _ (c1) (fun _ => wpAnyH_stronger (S' := fun w' => Below y1.heap.size y1 w') (fun w' h => Below.trans (c1) (h.mono (c1).size)) _ _ _ _ ?_)
      clear hK K hHeld
      have hHeld := Below.refl y1.heap.size y1
      replace z0 := z0.below c1
      replace s1 := s1.below c1
      replace Bd := Bd.under c1
      replace za := za.below c1
      replace Ba := Ba.under c1
      replace zb := zb.below c1
      replace Bb := Bb.under c1
      replace bb := bb.trans (c1.mono bb.size)
      try simp only [Act.put, List.setIfInBounds_toArray, List.set_cons_zero, List.set_cons_succ]
      refine wpAnyH_take (i := 3) (v := ?_) (by simp only [List.getElem?_toArray, List.getElem?_cons_succ, List.getElem?_cons_zero]; rfl) (by kernel_rfl) (by kernel_rfl) (by kernel_rfl) (by intro _ _ _ h; exact h) (Or.inl ⟨by rfl, ?_⟩) hHeld ?_
      rotate_left 1
      · intro wq hSw
        try dsimp only at hSw
        go_simp
        try (with_reducible rfl)
      try simp only [Act.put, List.setIfInBounds_toArray, List.set_cons_zero, List.set_cons_succ]
      refine wpAnyH_take (i := 4) (v := ?_) (by simp only [List.getElem?_toArray, List.getElem?_cons_succ, List.getElem?_cons_zero]; rfl) (by kernel_rfl) (by kernel_rfl) (by kernel_rfl) (by intro _ _ _ h; exact h) (Or.inl ⟨by rfl, ?_⟩) hHeld ?_
      rotate_left 1
      · intro wq hSw
        try dsimp only at hSw
        obtain ⟨x0, x1, x2, x3, x4, _⟩ := (Bd.under hSw).five
        go_simp
        try (with_reducible rfl)
      try simp only [Act.put, List.setIfInBounds_toArray, List.set_cons_zero, List.set_cons_succ]
      refine wpAnyH_take (i := 5) (v := ?_) (by simp only [List.getElem?_toArray, List.getElem?_cons_succ, List.getElem?_cons_zero]; rfl) (by kernel_rfl) (by kernel_rfl) (by kernel_rfl) (by intro _ _ _ h; exact h) (Or.inl ⟨by rfl, ?_⟩) hHeld ?_
      rotate_left 1
      · intro wq hSw
        try dsimp only at hSw
        go_simp
        try (with_reducible rfl)
      try simp only [Act.put, List.setIfInBounds_toArray, List.set_cons_zero, List.set_cons_succ]
      refine wpAnyH_take (i := 7) (v := ?_) (by simp only [List.getElem?_toArray, List.getElem?_cons_succ, List.getElem?_cons_zero]; rfl) (by kernel_rfl) (by kernel_rfl) (by kernel_rfl) (by intro _ _ _ h; exact h) (Or.inl ⟨by rfl, ?_⟩) hHeld ?_
      rotate_left 1
      · intro wq hSw
        try dsimp only at hSw
        obtain ⟨x0, x1, x2, x3, x4, _⟩ := (Bd.under hSw).five
        go_simp
        try (with_reducible rfl)
      try simp only [Act.put, List.setIfInBounds_toArray, List.set_cons_zero, List.set_cons_succ]
      refine wpAnyH_take (i := 8) (v := ?_) (by simp only [List.getElem?_toArray, List.getElem?_cons_succ, List.getElem?_cons_zero]; rfl) (by kernel_rfl) (by kernel_rfl) (by kernel_rfl) (by intro _ _ _ h; exact h) (Or.inl ⟨by rfl, ?_⟩) hHeld ?_
      rotate_left 1
      · intro wq hSw
        try dsimp only at hSw
        go_simp
        try (with_reducible rfl)
      try simp only [Act.put, List.setIfInBounds_toArray, List.set_cons_zero, List.set_cons_succ]
      refine wpAnyH_ready (rs := [6]) (by kernel_rfl) (by simp) ?_
      refine AllReadyH.cons (by simp only [List.getElem?_toArray, List.getElem?_cons_succ, List.getElem?_cons_zero]; rfl) (fun K hK => ?_) AllReadyH.nil
      have hC := dCrash_at size lf dn dw A n c zs Ak nk ck ks Lf Dw Zz y1 z0 hsm s1 hfk hLf.out hDw.out hZz.out
      go_simp
      refine hC.mono ?_
      clear hC
      rintro e y2 ⟨A6, rfl, z6, c2⟩
      go_wp2_with fail
      refine hK.out _ _ (c2) (fun _ => wpAnyH_stronger (S' := fun w' => Below y2.heap.size y2 w') (fun w' h => Below.trans (c2) (h.mono (c2).size)) _ _ _ _ ?_)
      clear hK K hHeld
      have hHeld := Below.refl y2.heap.size y2
      replace z0 := z0.below c2
      replace s1 := s1.below c2
      replace Bd := Bd.under c2
      replace za := za.below c2
      replace Ba := Ba.under c2
      replace zb := zb.below c2
      replace Bb := Bb.under c2
      replace bb := bb.trans (c2.mono bb.size)
      try simp only [Act.put, List.setIfInBounds_toArray, List.set_cons_zero, List.set_cons_succ]
      refine wpAnyH_ready (rs := [9]) (by kernel_rfl) (by simp) ?_
      refine AllReadyH.cons (by simp only [List.getElem?_toArray, List.getElem?_cons_succ, List.getElem?_cons_zero]; rfl) (fun K hK => ?_) AllReadyH.nil
      have hC := refCrash4_at size lf dn dw A n c zs Ak nk ck ks Lf Dw Zz y2 z0 hsm s1 hfk hLf.out hDw.out hZz.out
      go_simp
      refine hC.mono ?_
      clear hC
      rintro e y3 ⟨A7, c7, rfl, z7, c3⟩
      go_wp2_with fail
      refine hK.out _ _ (c3) (fun _ => wpAnyH_stronger (S' := fun w' => Below y3.heap.size y3 w') (fun w' h => Below.trans (c3) (h.mono (c3).size)) _ _ _ _ ?_)
      clear hK K hHeld
      have hHeld := Below.refl y3.heap.size y3
      replace z0 := z0.below c3
      replace s1 := s1.below c3
      replace Bd := Bd.under c3
      replace za := za.below c3
      replace Ba := Ba.under c3
      replace zb := zb.below c3
      replace Bb := Bb.under c3
      replace z6 := z6.below c3
      replace bb := bb.trans (c3.mono bb.size)
      try simp only [Act.put, List.setIfInBounds_toArray, List.set_cons_zero, List.set_cons_succ]
      refine wpAnyH_ready (rs := [10]) (by kernel_rfl) (by simp) ?_
      refine AllReadyH.cons (by simp only [List.getElem?_toArray, List.getElem?_cons_succ, List.getElem?_cons_zero]; rfl) (fun K hK => ?_) AllReadyH.nil
      have hC := refSame4_eq size Lf dn Dw A6 n n A7 c7 Zz y3 z6 z7 hn100
      go_simp
      refine hC.mono ?_
      clear hC
      rintro e y4 ⟨rfl, c4⟩
      go_wp2_with fail
      refine hK.out _ _ (c4) (fun _ => wpAnyH_stronger (S' := fun w' => Below y4.heap.size y4 w') (fun w' h => Below.trans (c4) (h.mono (c4).size)) _ _ _ _ ?_)
      clear hK K hHeld
      have hHeld := Below.refl y4.heap.size y4
      replace z0 := z0.below c4
      replace s1 := s1.below c4
      replace Bd := Bd.under c4
      replace za := za.below c4
      replace Ba := Ba.under c4
      replace zb := zb.below c4
      replace Bb := Bb.under c4
      replace z6 := z6.below c4
      replace z7 := z7.below c4
      replace bb := bb.trans (c4.mono bb.size)
      try simp only [Act.put, List.setIfInBounds_toArray, List.set_cons_zero, List.set_cons_succ]
      refine wpAnyH_take (i := 11) (v := ?_) (by simp only [List.getElem?_toArray, List.getElem?_cons_succ, List.getElem?_cons_zero]; rfl) (by kernel_rfl) (by kernel_rfl) (by kernel_rfl) (by intro _ _ _ h; exact h) (Or.inl ⟨by rfl, ?_⟩) hHeld ?_
      rotate_left 1
      · intro wq hSw
        try dsimp only at hSw
        go_simp
        try (with_reducible rfl)
      try simp only [Act.put, List.setIfInBounds_toArray, List.set_cons_zero, List.set_cons_succ]
      refine wpAnyH_take (i := 12) (v := ?_) (by simp only [List.getElem?_toArray, List.getElem?_cons_succ, List.getElem?_cons_zero]; rfl) (by kernel_rfl) (by kernel_rfl) (by kernel_rfl) (by intro _ _ _ h; exact h) (Or.inl ⟨by rfl, ?_⟩) hHeld ?_
      rotate_left 1
      · intro wq hSw
        try dsimp only at hSw
        go_simp
        try (with_reducible rfl)
      try simp only [Act.put, List.setIfInBounds_toArray, List.set_cons_zero, List.set_cons_succ]
      refine wpAnyH_take (i := 13) (v := ?_) (by simp only [List.getElem?_toArray, List.getElem?_cons_succ, List.getElem?_cons_zero]; rfl) (by kernel_rfl) (by kernel_rfl) (by kernel_rfl) (by intro _ _ _ h; exact h) (Or.inl ⟨by rfl, ?_⟩) hHeld ?_
      rotate_left 1
      · intro wq hSw
        try dsimp only at hSw
        obtain ⟨x0, x1, x2, x3, x4, _⟩ := (Bd.under hSw).five
        go_simp
        try (with_reducible rfl)
      try simp only [Act.put, List.setIfInBounds_toArray, List.set_cons_zero, List.set_cons_succ]
      refine wpAnyH_take (i := 14) (v := ?_) (by simp only [List.getElem?_toArray, List.getElem?_cons_succ, List.getElem?_cons_zero]; rfl) (by kernel_rfl) (by kernel_rfl) (by kernel_rfl) (by intro _ _ _ h; exact h) (Or.inl ⟨by rfl, ?_⟩) hHeld ?_
      rotate_left 1
      · intro wq hSw
        try dsimp only at hSw
        go_simp
        try (with_reducible rfl)
      try simp only [Act.put, List.setIfInBounds_toArray, List.set_cons_zero, List.set_cons_succ]
      refine wpAnyH_take (i := 16) (v := ?_) (by simp only [List.getElem?_toArray, List.getElem?_cons_succ, List.getElem?_cons_zero]; rfl) (by kernel_rfl) (by kernel_rfl) (by kernel_rfl) (by intro _ _ _ h; exact h) (Or.inl ⟨by rfl, ?_⟩) hHeld ?_
      rotate_left 1
      · intro wq hSw
        try dsimp only at hSw
        obtain ⟨x0, x1, x2, x3, x4, _⟩ := (Bd.under hSw).five
        go_simp
        try (with_reducible rfl)
      try simp only [Act.put, List.setIfInBounds_toArray, List.set_cons_zero, List.set_cons_succ]
      refine wpAnyH_take (i := 17) (v := ?_) (by simp only [List.getElem?_toArray, List.getElem?_cons_succ, List.getElem?_cons_zero]; rfl) (by kernel_rfl) (by kernel_rfl) (by kernel_rfl) (by intro _ _ _ h; exact h) (Or.inl ⟨by rfl, ?_⟩) hHeld ?_
      rotate_left 1
      · intro wq hSw
        try dsimp only at hSw
        go_simp
        try (with_reducible rfl)
      try simp only [Act.put, List.setIfInBounds_toArray, List.set_cons_zero, List.set_cons_succ]
      refine wpAnyH_ready (rs := [15]) (by kernel_rfl) (by simp) ?_
      refine AllReadyH.cons (by simp only [List.getElem?_toArray, List.getElem?_cons_succ, List.getElem?_cons_zero]; rfl) (fun K hK => ?_) AllReadyH.nil
      have hC := dLimit_at size lf dn x dw A n c zs y4 z0 hsm
      go_simp
      refine hC.mono ?_
      clear hC
      rintro e y5 ⟨A8, rfl, z8, c5⟩
      go_wp2_with fail
      refine hK.out _ _ (c5) (fun _ => wpAnyH_stronger (S' := fun w' => Below y5.heap.size y5 w') (fun w' h => Below.trans (c5) (h.mono (c5).size)) _ _ _ _ ?_)
      clear hK K hHeld
      have hHeld := Below.refl y5.heap.size y5
      replace z0 := z0.below c5
      replace s1 := s1.below c5
      replace Bd := Bd.under c5
      replace za := za.below c5
      replace Ba := Ba.under c5
      replace zb := zb.below c5
      replace Bb := Bb.under c5
      replace z6 := z6.below c5
      replace z7 := z7.below c5
      replace bb := bb.trans (c5.mono bb.size)
      try simp only [Act.put, List.setIfInBounds_toArray, List.set_cons_zero, List.set_cons_succ]
      refine wpAnyH_ready (rs := [18]) (by kernel_rfl) (by simp) ?_
      refine AllReadyH.cons (by simp only [List.getElem?_toArray, List.getElem?_cons_succ, List.getElem?_cons_zero]; rfl) (fun K hK => ?_) AllReadyH.nil
      have hC := refLimit4_any size lf dn x dw A n c zs y5 z0 hsm
      go_simp
      refine hC.mono ?_
      clear hC
      rintro e y6 ⟨A9, c9, rfl, z9, c6⟩
      go_wp2_with fail
      refine hK.out _ _ (c6) (fun _ => wpAnyH_stronger (S' := fun w' => Below y6.heap.size y6 w') (fun w' h => Below.trans (c6) (h.mono (c6).size)) _ _ _ _ ?_)
      clear hK K hHeld
      have hHeld := Below.refl y6.heap.size y6
      replace z0 := z0.below c6
      replace s1 := s1.below c6
      replace Bd := Bd.under c6
      replace za := za.below c6
      replace Ba := Ba.under c6
      replace zb := zb.below c6
      replace Bb := Bb.under c6
      replace z6 := z6.below c6
      replace z7 := z7.below c6
      replace z8 := z8.below c6
      replace bb := bb.trans (c6.mono bb.size)
      try simp only [Act.put, List.setIfInBounds_toArray, List.set_cons_zero, List.set_cons_succ]
      refine wpAnyH_ready (rs := [19]) (by kernel_rfl) (by simp) ?_
      refine AllReadyH.cons (by simp only [List.getElem?_toArray, List.getElem?_cons_succ, List.getElem?_cons_zero]; rfl) (fun K hK => ?_) AllReadyH.nil
      have hC := refSame4_eq size x dn dw A8 n n A9 c9 zs y6 z8 z9 hn100
      go_simp
      refine hC.mono ?_
      clear hC
      rintro e y7 ⟨rfl, c7⟩
      go_wp2_with fail
      refine hK.out _ _ (c7) (fun _ => wpAnyH_stronger (S' := fun w' => Below y7.heap.size y7 w') (fun w' h => Below.trans (c7) (h.mono (c7).size)) _ _ _ _ ?_)
      clear hK K hHeld
      have hHeld := Below.refl y7.heap.size y7
      replace z0 := z0.below c7
      replace s1 := s1.below c7
      replace Bd := Bd.under c7
      replace za := za.below c7
      replace Ba := Ba.under c7
      replace zb := zb.below c7
      replace Bb := Bb.under c7
      replace z6 := z6.below c7
      replace z7 := z7.below c7
      replace z8 := z8.below c7
      replace z9 := z9.below c7
      replace bb := bb.trans (c7.mono bb.size)
      try simp only [Act.put, List.setIfInBounds_toArray, List.set_cons_zero, List.set_cons_succ]
      refine wpAnyH_take (i := 20) (v := ?_) (by simp only [List.getElem?_toArray, List.getElem?_cons_succ, List.getElem?_cons_zero]; rfl) (by kernel_rfl) (by kernel_rfl) (by kernel_rfl) (by intro _ _ _ h; exact h) (Or.inl ⟨by rfl, ?_⟩) hHeld ?_
      rotate_left 1
      · intro wq hSw
        try dsimp only at hSw
        go_simp
        try (with_reducible rfl)
      try simp only [Act.put, List.setIfInBounds_toArray, List.set_cons_zero, List.set_cons_succ]
      refine wpAnyH_take (i := 21) (v := ?_) (by simp only [List.getElem?_toArray, List.getElem?_cons_succ, List.getElem?_cons_zero]; rfl) (by kernel_rfl) (by kernel_rfl) (by kernel_rfl) (by intro _ _ _ h; exact h) (Or.inl ⟨by rfl, ?_⟩) hHeld ?_
      rotate_left 1
      · intro wq hSw
        try dsimp only at hSw
        go_simp
        try (with_reducible rfl)
      try simp only [Act.put, List.setIfInBounds_toArray, List.set_cons_zero, List.set_cons_succ]
      refine wpAnyH_done (by kernel_rfl) ?_ _
      have qn := str_of (l := []) (Sl.nil y7)
      go_wp2
      go_ret
      exact ⟨rfl, bb⟩
    · skip
      obtain ⟨l1, hl1⟩ : ∃ t, Hid (rdF size zs x y zz = t) := ⟨_, rfl⟩
      obtain ⟨k1, hk1⟩ : ∃ t, Hid (l1.length = t) := ⟨_, rfl⟩
      have hC := dRead_ok size lf dn dw A n c zs x y zz l1 k1 v2 z0 hsm hy1 hz1 ho hl1.out hk1.out
      refine hC.mono ?_
      clear hC
      rintro e w5 ⟨Ax, cx, rfl, Nx, b5⟩
      replace z0 := z0.below b5
      replace s1 := s1.below b5
      replace Bd := Bd.under b5
      replace za := za.below b5
      replace Ba := Ba.under b5
      replace zb := zb.below b5
      replace Bb := Bb.under b5
      replace bb := bb.trans (b5.mono bb.size)
      have sx := Nx.sl
      obtain ⟨Bdq0, Bdq1, Bdq2, Bdq3, Bdq4, Bdr0, Bdr1, Bdr2, Bdr3, Bdr4⟩ := Bd.five
      have Bdl := Bd.lt
      go_wp2_with fail
      clear Bdq0 Bdq1 Bdq2 Bdq3 Bdq4 Bdr0 Bdr1 Bdr2 Bdr3 Bdr4
      have hC := refRead4_ok size lf dn dw A n c zs x y zz l1 k1 w5 z0 hsm hy1 hz1 ho hl1.out hk1.out
      refine hC.mono ?_
      clear hC
      rintro e w6 ⟨Ay, cy, rfl, Ny, b6⟩
      replace z0 := z0.below b6
      replace s1 := s1.below b6
      replace Bd := Bd.under b6
      replace za := za.below b6
      replace Ba := Ba.under b6
      replace zb := zb.below b6
      replace Bb := Bb.under b6
      replace sx := sx.below b6
      replace bb := bb.trans (b6.mono bb.size)
      have sy := Ny.sl
      go_wp2_with fail
      refine wp_region_held_drew (S := fun w' => Below w6.heap.size w6 w') (by kernel_rfl) (Below.refl _ _).drew (fun hHeld => ?_)
      try dsimp only at hHeld
      have bd : Below w6.heap.size w6 w6.drew := (Below.refl w6.heap.size w6).drew
      replace z0 := z0.below bd
      replace s1 := s1.below bd
      replace Bd := Bd.under bd
      replace za := za.below bd
      replace Ba := Ba.under bd
      replace zb := zb.below bd
      replace Bb := Bb.under bd
      replace sx := sx.below bd
      replace sy := sy.below bd
      replace bb := bb.trans (bd.mono bb.size)
      generalize w6.drew = wd at *
      refine wpAnyH_stronger (S' := fun w' => Below wd.heap.size wd w') (fun w' h => Below.trans bd (h.mono bd.size)) _ _ _ _ ?_
      replace hHeld := Below.refl wd.heap.size wd
      try simp only [Act.put, List.setIfInBounds_toArray, List.set_cons_zero, List.set_cons_succ]
      refine wpAnyH_take (i := 0) (v := ?_) (by simp only [List.getElem?_toArray, List.getElem?_cons_zero]; rfl) (by kernel_rfl) (by kernel_rfl) (by kernel_rfl) (by intro _ _ _ h; exact h) (Or.inl ⟨by rfl, ?_⟩) hHeld ?_
      rotate_left 1
      · intro wq hSw
        try dsimp only at hSw
        obtain ⟨x0, x1, x2, x3, x4, _⟩ := (Ba.under hSw).five
        go_simp
        try (with_reducible rfl)
      try simp only [Act.put, List.setIfInBounds_toArray, List.set_cons_zero, List.set_cons_succ]
      refine wpAnyH_take (i := 1) (v := ?_) (by simp only [List.getElem?_toArray, List.getElem?_cons_succ, List.getElem?_cons_zero]; rfl) (by kernel_rfl) (by kernel_rfl) (by kernel_rfl) (by intro _ _ _ h; exact h) (Or.inl ⟨by rfl, ?_⟩) hHeld ?_
      rotate_left 1
      · intro wq hSw
        try dsimp only at hSw
        obtain ⟨x0, x1, x2, x3, x4, _⟩ := (Bb.under hSw).five
        go_simp
        try (with_reducible rfl)
      try simp only [Act.put, List.setIfInBounds_toArray, List.set_cons_zero, List.set_cons_succ]
      refine wpAnyH_ready (rs := [2]) (by kernel_rfl) (by simp) ?_
      refine AllReadyH.cons (by simp only [List.getElem?_toArray, List.getElem?_cons_succ, List.getElem?_cons_zero]; rfl) (fun K hK => ?_) AllReadyH.nil
      have hC := refSame4_eq y (-1) 0 false A1 m m A2 m (List.replicate m zero4) wd za zb (by omega)
      go_simp
      refine hC.mono ?_
      clear hC
      rintro e y1 ⟨rfl, c1⟩
      go_wp2_with fail
      refine hK.out _ _ (c1) (fun _ => wpAnyH_stronger (S' := fun w' => Below y1.heap.size y1 w') (fun w' h => Below.trans (c1) (h.mono (c1).size)) _ _ _ _ ?_)
      clear hK K hHeld
      have hHeld := Below.refl y1.heap.size y1
      replace z0 := z0.below c1
      replace s1 := s1.below c1
      replace Bd := Bd.under c1
      replace za := za.below c1
      replace Ba := Ba.under c1
      replace zb := zb.below c1
      replace Bb := Bb.under c1
      replace sx := sx.below c1
      replace sy := sy.below c1
      replace bb := bb.trans (c1.mono bb.size)
      try simp only [Act.put, List.setIfInBounds_toArray, List.set_cons_zero, List.set_cons_succ]
      refine wpAnyH_take (i := 3) (v := ?_) (by simp only [List.getElem?_toArray, List.getElem?_cons_succ, List.getElem?_cons_zero]; rfl) (by kernel_rfl) (by kernel_rfl) (by kernel_rfl) (by intro _ _ _ h; exact h) (Or.inl ⟨by rfl, ?_⟩) hHeld ?_
      rotate_left 1
      · intro wq hSw
        try dsimp only at hSw
        go_simp
        try (with_reducible rfl)
      try simp only [Act.put, List.setIfInBounds_toArray, List.set_cons_zero, List.set_cons_succ]
      refine wpAnyH_take (i := 4) (v := ?_) (by simp only [List.getElem?_toArray, List.getElem?_cons_succ, List.getElem?_cons_zero]; rfl) (by kernel_rfl) (by kernel_rfl) (by kernel_rfl) (by intro _ _ _ h; exact h) (Or.inl ⟨by rfl, ?_⟩) hHeld ?_
      rotate_left 1
      · intro wq hSw
        try dsimp only at hSw
        obtain ⟨x0, x1, x2, x3, x4, _⟩ := (Bd.under hSw).five
        go_simp
        try (with_reducible rfl)
      try simp only [Act.put, List.setIfInBounds_toArray, List.set_cons_zero, List.set_cons_succ]
      refine wpAnyH_take (i := 5) (v := ?_) (by simp only [List.getElem?_toArray, List.getElem?_cons_succ, List.getElem?_cons_zero]; rfl) (by kernel_rfl) (by kernel_rfl) (by kernel_rfl) (by intro _ _ _ h; exact h) (Or.inl ⟨by rfl, ?_⟩) hHeld ?_
      rotate_left 1
      · intro wq hSw
        try dsimp only at hSw
        go_simp
        try (with_reducible rfl)
      try simp only [Act.put, List.setIfInBounds_toArray, List.set_cons_zero, List.set_cons_succ]
      refine wpAnyH_take (i := 7) (v := ?_) (by simp only [List.getElem?_toArray, List.getElem?_cons_succ, List.getElem?_cons_zero]; rfl) (by kernel_rfl) (by kernel_rfl) (by kernel_rfl) (by intro _ _ _ h; exact h) (Or.inl ⟨by rfl, ?_⟩) hHeld ?_
      rotate_left 1
      · intro wq hSw
        try dsimp only at hSw
        obtain ⟨x0, x1, x2, x3, x4, _⟩ := (Bd.under hSw).five
        go_simp
        try (with_reducible rfl)
      try simp only [Act.put, List.setIfInBounds_toArray, List.set_cons_zero, List.set_cons_succ]
      refine wpAnyH_take (i := 8) (v := ?_) (by simp only [List.getElem?_toArray, List.getElem?_cons_succ, List.getElem?_cons_zero]; rfl) (by kernel_rfl) (by kernel_rfl) (by kernel_rfl) (by intro _ _ _ h; exact h) (Or.inl ⟨by rfl, ?_⟩) hHeld ?_
      rotate_left 1
      · intro wq hSw
        try dsimp only at hSw
        go_simp
        try (with_reducible rfl)
      try simp only [Act.put, List.setIfInBounds_toArray, List.set_cons_zero, List.set_cons_succ]
      refine wpAnyH_ready (rs := [6]) (by kernel_rfl) (by simp) ?_
      refine AllReadyH.cons (by simp only [List.getElem?_toArray, List.getElem?_cons_succ, List.getElem?_cons_zero]; rfl) (fun K hK => ?_) AllReadyH.nil
      have hC := dCrash_at size lf dn dw A n c zs Ak nk ck ks Lf Dw Zz y1 z0 hsm s1 hfk hLf.out hDw.out hZz.out
      go_simp
      refine hC.mono ?_
      clear hC
      rintro e y2 ⟨A6, rfl, z6, c2⟩
      go_wp2_with fail
      refine hK.out _ _ (c2) (fun _ => wpAnyH_stronger (S' := fun w' => Below y2.heap.size y2 w') (fun w' h => Below.trans (c2) (h.mono (c2).size)) _ _ _ _ ?_)
      clear hK K hHeld
      have hHeld := Below.refl y2.heap.size y2
      replace z0 := z0.below c2
      replace s1 := s1.below c2
      replace Bd := Bd.under c2
      replace za := za.below c2
      replace Ba := Ba.under c2
      replace zb := zb.below c2
      replace Bb := Bb.under c2
      replace sx := sx.below c2
      replace sy := sy.below c2
      replace bb := bb.trans (c2.mono bb.size)
      try simp only [Act.put, List.setIfInBounds_toArray, List.set_cons_zero, List.set_cons_succ]
      refine wpAnyH_ready (rs := [9]) (by kernel_rfl) (by simp) ?_
      refine AllReadyH.cons (by simp only [List.getElem?_toArray, List.getElem?_cons_succ, List.getElem?_cons_zero]; rfl) (fun K hK => ?_) AllReadyH.nil
      have hC := refCrash4_at size lf dn dw A n c zs Ak nk ck ks Lf Dw Zz y2 z0 hsm s1 hfk hLf.out hDw.out hZz.out
      go_simp
      refine hC.mono ?_
      clear hC
      rintro e y3 ⟨A7, c7, rfl, z7, c3⟩
      go_wp2_with fail
      refine hK.out _ _ (c3) (fun _ => wpAnyH_stronger (S' := fun w' => Below y3.heap.size y3 w') (fun w' h => Below.trans (c3) (h.mono (c3).size)) _ _ _ _ ?_)
      clear hK K hHeld
      have hHeld := Below.refl y3.heap.size y3
      replace z0 := z0.below c3
      replace s1 := s1.below c3
      replace Bd := Bd.under c3
      replace za := za.below c3
      replace Ba := Ba.under c3
      replace zb := zb.below c3
      replace Bb := Bb.under c3
      replace sx := sx.below c3
      replace sy := sy.below c3
      replace z6 := z6.below c3
      replace bb := bb.trans (c3.mono bb.size)
      try simp only [Act.put, List.setIfInBounds_toArray, List.set_cons_zero, List.set_cons_succ]
      refine wpAnyH_ready (rs := [10]) (by kernel_rfl) (by simp) ?_
      refine AllReadyH.cons (by simp only [List.getElem?_toArray, List.getElem?_cons_succ, List.getElem?_cons_zero]; rfl) (fun K hK => ?_) AllReadyH.nil
      have hC := refSame4_eq size Lf dn Dw A6 n n A7 c7 Zz y3 z6 z7 hn100
      go_simp
      refine hC.mono ?_
      clear hC
      rintro e y4 ⟨rfl, c4⟩
      go_wp2_with fail
      refine hK.out _ _ (c4) (fun _ => wpAnyH_stronger (S' := fun w' => Below y4.heap.size y4 w') (fun w' h => Below.trans (c4) (h.mono (c4).size)) _ _ _ _ ?_)
      clear hK K hHeld
      have hHeld := Below.refl y4.heap.size y4
      replace z0 := z0.below c4
      replace s1 := s1.below c4
      replace Bd := Bd.under c4
      replace za := za.below c4
      replace Ba := Ba.under c4
      replace zb := zb.below c4
      replace Bb := Bb.under c4
      replace sx := sx.below c4
      replace sy := sy.below c4
      replace z6 := z6.below c4
      replace z7 := z7.below c4
      replace bb := bb.trans (c4.mono bb.size)
      try simp only [Act.put, List.setIfInBounds_toArray, List.set_cons_zero, List.set_cons_succ]
      refine wpAnyH_take (i := 11) (v := ?_) (by simp only [List.getElem?_toArray, List.getElem?_cons_succ, List.getElem?_cons_zero]; rfl) (by kernel_rfl) (by kernel_rfl) (by kernel_rfl) (by intro _ _ _ h; exact h) (Or.inl ⟨by rfl, ?_⟩) hHeld ?_
      rotate_left 1
      · intro wq hSw
        try dsimp only at hSw
        go_simp
        try (with_reducible rfl)
      try simp only [Act.put, List.setIfInBounds_toArray, List.set_cons_zero, List.set_cons_succ]
      refine wpAnyH_take (i := 12) (v := ?_) (by simp only [List.getElem?_toArray, List.getElem?_cons_succ, List.getElem?_cons_zero]; rfl) (by kernel_rfl) (by kernel_rfl) (by kernel_rfl) (by intro _ _ _ h; exact h) (Or.inl ⟨by rfl, ?_⟩) hHeld ?_
      rotate_left 1
      · intro wq hSw
        try dsimp only at hSw
        go_simp
        try (with_reducible rfl)
      try simp only [Act.put, List.setIfInBounds_toArray, List.set_cons_zero, List.set_cons_succ]
      refine wpAnyH_take (i := 13) (v := ?_) (by simp only [List.getElem?_toArray, List.getElem?_cons_succ, List.getElem?_cons_zero]; rfl) (by kernel_rfl) (by kernel_rfl) (by kernel_rfl) (by intro _ _ _ h; exact h) (Or.inl ⟨by rfl, ?_⟩) hHeld ?_
      rotate_left 1
      · intro wq hSw
        try dsimp only at hSw
        obtain ⟨x0, x1, x2, x3, x4, _⟩ := (Bd.under hSw).five
        go_simp
        try (with_reducible rfl)
      try simp only [Act.put, List.setIfInBounds_toArray, List.set_cons_zero, List.set_cons_succ]
      refine wpAnyH_take (i := 14) (v := ?_) (by simp only [List.getElem?_toArray, List.getElem?_cons_succ, List.getElem?_cons_zero]; rfl) (by kernel_rfl) (by kernel_rfl) (by kernel_rfl) (by intro _ _ _ h; exact h) (Or.inl ⟨by rfl, ?_⟩) hHeld ?_
      rotate_left 1
      · intro wq hSw
        try dsimp only at hSw
        go_simp
        try (with_reducible rfl)
      try simp only [Act.put, List.setIfInBounds_toArray, List.set_cons_zero, List.set_cons_succ]
      refine wpAnyH_take (i := 16) (v := ?_) (by simp only [List.getElem?_toArray, List.getElem?_cons_succ, List.getElem?_cons_zero]; rfl) (by kernel_rfl) (by kernel_rfl) (by kernel_rfl) (by intro _ _ _ h; exact h) (Or.inl ⟨by rfl, ?_⟩) hHeld ?_
      rotate_left 1
      · intro wq hSw
        try dsimp only at hSw
        obtain ⟨x0, x1, x2, x3, x4, _⟩ := (Bd.under hSw).five
        go_simp
        try (with_reducible rfl)
      try simp only [Act.put, List.setIfInBounds_toArray, List.set_cons_zero, List.set_cons_succ]
      refine wpAnyH_take (i := 17) (v := ?_) (by simp only [List.getElem?_toArray, List.getElem?_cons_succ, List.getElem?_cons_zero]; rfl) (by kernel_rfl) (by kernel_rfl) (by kernel_rfl) (by intro _ _ _ h; exact h) (Or.inl ⟨by rfl, ?_⟩) hHeld ?_
      rotate_left 1
      · intro wq hSw
        try dsimp only at hSw
        go_simp
        try (with_reducible rfl)
      try simp only [Act.put, List.setIfInBounds_toArray, List.set_cons_zero, List.set_cons_succ]
      refine wpAnyH_ready (rs := [15]) (by kernel_rfl) (by simp) ?_
      refine AllReadyH.cons (by simp only [List.getElem?_toArray, List.getElem?_cons_succ, List.getElem?_cons_zero]; rfl) (fun K hK => ?_) AllReadyH.nil
      have hC := dLimit_at size lf dn x dw A n c zs y4 z0 hsm
      go_simp
      refine hC.mono ?_
      clear hC
      rintro e y5 ⟨A8, rfl, z8, c5⟩
      go_wp2_with fail
      refine hK.out _ _ (c5) (fun _ => wpAnyH_stronger (S' := fun w' => Below y5.heap.size y5 w') (fun w' h => Below.trans (c5) (h.mono (c5).size)) _ _ _ _ ?_)
      clear hK K hHeld
      have hHeld := Below.refl y5.heap.size y5
      replace z0 := z0.below c5
      replace s1 := s1.below c5
      replace Bd := Bd.under c5
      replace za := za.below c5
      replace Ba := Ba.under c5
      replace zb := zb.below c5
      replace Bb := Bb.under c5
      replace sx := sx.below c5
      replace sy := sy.below c5
      replace z6 := z6.below c5
      replace z7 := z7.below c5
      replace bb := bb.trans (c5.mono bb.size)
      try simp only [Act.put, List.setIfInBounds_toArray, List.set_cons_zero, List.set_cons_succ]
      refine wpAnyH_ready (rs := [18]) (by kernel_rfl) (by simp) ?_
      refine AllReadyH.cons (by simp only [List.getElem?_toArray, List.getElem?_cons_succ, List.getElem?_cons_zero]; rfl) (fun K hK => ?_) AllReadyH.nil
      have hC := refLimit4_any size lf dn x dw A n c zs y5 z0 hsm
      go_simp
      refine hC.mono ?_
      clear hC
      rintro e y6 ⟨A9, c9, rfl, z9, c6⟩
      go_wp2_with fail
      refine hK.out _ _ (c6) (fun _ => wpAnyH_stronger (S' := fun w' => Below y6.heap.size y6 w') (fun w' h => Below.trans (c6) (h.mono (c6).size)) _ _ _ _ ?_)
      clear hK K hHeld
      have hHeld := Below.refl y6.heap.size y6
      replace z0 := z0.below c6
      replace s1 := s1.below c6
      replace Bd := Bd.under c6
      replace za := za.below c6
      replace Ba := Ba.under c6
      replace zb := zb.below c6
      replace Bb := Bb.under c6
      replace sx := sx.below c6
      replace sy := sy.below c6
      replace z6 := z6.below c6
      replace z7 := z7.below c6
      replace z8 := z8.below c6
      replace bb := bb.trans (c6.mono bb.size)
      try simp only [Act.put, List.setIfInBounds_toArray, List.set_cons_zero, List.set_cons_succ]
      refine wpAnyH_ready (rs := [19]) (by kernel_rfl) (by simp) ?_
      refine AllReadyH.cons (by simp only [List.getElem?_toArray, List.getElem?_cons_succ, List.getElem?_cons_zero]; rfl) (fun K hK => ?_) AllReadyH.nil
      have hC := refSame4_eq size x dn dw A8 n n A9 c9 zs y6 z8 z9 hn100
      go_simp
      refine hC.mono ?_
      clear hC
      rintro e y7 ⟨rfl, c7⟩
      go_wp2_with fail
      refine hK.out _ _ (c7) (fun _ => wpAnyH_stronger (S' := fun w' => Below y7.heap.size y7 w') (fun w' h => Below.trans (c7) (h.mono (c7).size)) _ _ _ _ ?_)
      clear hK K hHeld
      have hHeld := Below.refl y7.heap.size y7
      replace z0 := z0.below c7
      replace s1 := s1.below c7
      replace Bd := Bd.under c7
      replace za := za.below c7
      replace Ba := Ba.under c7
      replace zb := zb.below c7
      replace Bb := Bb.under c7
      replace sx := sx.below c7
      replace sy := sy.below c7
      replace z6 := z6.below c7
      replace z7 := z7.below c7
      replace z8 := z8.below c7
      replace z9 := z9.below c7
      replace bb := bb.trans (c7.mono bb.size)
      try simp only [Act.put, List.setIfInBounds_toArray, List.set_cons_zero, List.set_cons_succ]
      refine wpAnyH_take (i := 20) (v := ?_) (by simp only [List.getElem?_toArray, List.getElem?_cons_succ, List.getElem?_cons_zero]; rfl) (by kernel_rfl) (by kernel_rfl) (by kernel_rfl) (by intro _ _ _ h; exact h) (Or.inl ⟨by rfl, ?_⟩) hHeld ?_
      rotate_left 1
      · intro wq hSw
        try dsimp only at hSw
        go_simp
        try (with_reducible rfl)
      try simp only [Act.put, List.setIfInBounds_toArray, List.set_cons_zero, List.set_cons_succ]
      refine wpAnyH_take (i := 21) (v := ?_) (by simp only [List.getElem?_toArray, List.getElem?_cons_succ, List.getElem?_cons_zero]; rfl) (by kernel_rfl) (by kernel_rfl) (by kernel_rfl) (by intro _ _ _ h; exact h) (Or.inl ⟨by rfl, ?_⟩) hHeld ?_
      rotate_left 1
      · intro wq hSw
        try dsimp only at hSw
        go_simp
        try (with_reducible rfl)
      try simp only [Act.put, List.setIfInBounds_toArray, List.set_cons_zero, List.set_cons_succ]
      refine wpAnyH_done (by kernel_rfl) ?_ _
      have qx := str_of sx
      have qy := str_of sy
      go_wp2
      go_ret
      exact ⟨rfl, bb⟩

theorem DevTells_walk (a0_0 : Int) (a0_1 : Option Addr) (len0_1 cap0_1 : Nat) (a0_2 : Int) (a0_3 : Bool) (a0_4 : Int) (a1 : Option Addr) (len1 cap1 : Nat) (z1 : List Int) (a2 : Int) (a3 : Int) (a4 : Int) (w : World) (w0_0 : (Lit.int .i64 a0_0).wf = true) (w0_1 : IsSts [.num .i64, .num .i64, .row .u8, .num .i64] w a0_1 len0_1 cap0_1) (w0_2 : (Lit.int .i64 a0_2).wf = true) (w0_4 : (Lit.int .i64 a0_4).wf = true) (w1 : IsRow .i64 w a1 len1 cap1 z1) (w2 : (Lit.int .i64 a2).wf = true) (w3 : (Lit.int .i64 a3).wf = true) (w4 : (Lit.int .i64 a4).wf = true) :
    Calls Try.prog 4 #[.agg #[.int .i64 a0_0, .slice a0_1 len0_1 cap0_1, .int .i64 a0_2, .bool a0_3, .int .i64 a0_4], .slice a1 len1 cap1, .int .i64 a2, .int .i64 a3, .int .i64 a4] w (AwakePost w) := by
  obtain ⟨zs, z0⟩ := zs_of_sts w0_1
  obtain ⟨ks, s1, hf⟩ := ints_of_row w1
  exact DevTells_core a0_0 a0_2 a0_4 a0_3 a0_1 len0_1 cap0_1 zs a1 len1 cap1 ks a2 a3 a4 w z0 s1 hf (wf_i64 w3).2 (wf_i64 w4).2
end Go.Proofs.Ytnjekhnheihooaa
