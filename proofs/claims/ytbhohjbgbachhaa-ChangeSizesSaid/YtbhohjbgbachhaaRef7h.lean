/-
  Contract of the document's Read of extents (written by gen_ref7h.py).
-/
import Derived.Test.YtbhohjbgbachhaaExB
import Derived.Test.YtbhohjbgbachhaaRef7f
namespace Go.Wag
open Go.RowKit
set_option linter.unusedVariables false
theorem par_yes {t0 b : List UInt8} {k p pe M : Nat} {xs : List Xp} (hg : parX k t0 = some (xs, b.drop p)) (hM' : hM (b.drop p) = M) (he : pe = p + 7 + M) (hn : pe ≤ b.length) : parX (k + 1) t0 = some (xs ++ [hX (b.drop p)], b.drop pe) := by
  rw [parX_snoc k t0 xs _ hg]
  unfold rdX
  rw [hM', if_pos (by rw [List.length_drop]; omega), List.drop_drop, he]
  simp [Nat.add_assoc]
theorem par_no {t0 b : List UInt8} {k p : Nat} {xs : List Xp} (hg : parX k t0 = some (xs, b.drop p)) (hp : p ≤ b.length) (h : b.length < p + 7 ∨ b.length < p + 7 + hM (b.drop p)) : parX (k + 1) t0 = none := by
  rw [parX_snoc k t0 xs _ hg]
  unfold rdX
  rw [if_neg (by rw [List.length_drop]; omega)]
  rfl
theorem xrd_none {c0 : UInt8} {t0 : List UInt8} {k C : Nat} (hC : c0.toNat = C) (hk : k ≤ C) (h : parX k t0 = none) : xrd (c0 :: t0) = none := by
  unfold xrd
  simp only [hC, parX_none hk h]
theorem xrd_fin {c0 : UInt8} {t0 t : List UInt8} {xs : List Xp} {C : Nat} (hC : c0.toNat = C) (h : parX C t0 = some (xs, t)) : xrd (c0 :: t0) = if xwr xs = some (c0 :: t0) then some xs else none := by
  by_cases hw : xwr xs = some (c0 :: t0)
  · rw [if_pos hw, xrd_wr hw]
  · rw [if_neg hw]
    cases hr : xrd (c0 :: t0) with
    | none => rfl
    | some l =>
      exfalso
      have h2 := xwr_rd hr
      unfold xrd at hr
      simp only [hC, h] at hr
      split at hr
      · cases hr
        exact hw h2
      · cases hr
theorem str_ne7 {l' l : List UInt8} (h : ¬ l' = l) : ((⟨l'.toArray⟩ : ByteArray) == ⟨l.toArray⟩) = false := by
  have e : ∀ a b : List UInt8, (ByteArray.mk a.toArray == ByteArray.mk b.toArray) = (a == b) := fun a b => by
    show (a.toArray == b.toArray) = _
    simp
  rw [e]
  simpa using h
theorem hM_is (t : List UInt8) : hM t = if hK t = 2 then 32 * hN t else 0 := rfl
end Go.Wag
namespace Go.Proofs.Ytbhohjbgbachhaa
open Go.RowKit Go.Wag
set_option linter.unusedVariables false
set_option linter.unusedSimpArgs false
set_option maxRecDepth 20000
set_option maxHeartbeats 8000000 in
theorem fRead_any (A : Option Addr) (n c : Nat) (b : List UInt8) (w : World) (h : Sl w A n c (b.map v8)) (hn : n ≤ 100000000) :
    Calls Try.prog 57 #[.slice A n c] w (RdPost w (xrd b)) := by
  have HN : Hid (b.length = n) := h.len8
  have hcap := h.cap
  have hbig := h.big
  obtain ⟨iX, hiX, hzX, hsX, hbX⟩ := iExt
  obtain ⟨i0, hi0, hz0, hz1, hz2⟩ := info_parts i5
  cases hb : b with
  | nil =>
    subst hb
    obtain rfl : n = 0 := HN.out.symm
    go_enter Try.func57, Try.ntmps57
    go_wp2
    go_ret2
    exact RdPost.no rfl (Below.refl _ _)
  | cons c0 t0 =>
  have hn1 : 0 < n := by rw [← HN.out, hb, List.length_cons]; omega
  have hne : ((n : Int) == 0) = false := by simp; omega
  obtain ⟨ad, rfl, hbl, hl0, hc0⟩ := h.byte hn1
  obtain ⟨C, hC⟩ : ∃ C, c0.toNat = C := ⟨_, rfl⟩
  have hCb : C < 256 := by rw [← hC]; exact c0.toNat_lt
  have e0 : (b[0]'hl0).toNat = C := by rw [← hC]; congr 1; subst hb; rfl
  rw [e0] at hc0
  have hc1 : w.cell? ad = some (.int .u8 (C : Int)) := by
    have : ad.add 0 = ad := by unfold Addr.add; split <;> simp_all
    rw [← this]; exact hc0
  replace hb := Lib.hid hb
  replace hC := Lib.hid hC
  clear e0 hl0
  have hp0 : Hid (parX 0 t0 = some ([], b.drop 1)) := by
    show parX 0 t0 = some ([], b.drop 1)
    rw [hb.out]
    rfl
  go_enter Try.func57, Try.ntmps57
  go_wp2_with fail
  go_loopg [4, 5, 6] C (fun g o q i wr => ∃ (k p : Nat) (Ar : Option Addr) (cr : Nat) (xs : List Xp), k + g = C ∧ o = .slice Ar k cr ∧ q = .int .i64 (p : Int) ∧ i = .int .i64 (k : Int) ∧ Hid (parX k t0 = some (xs, b.drop p)) ∧ p ≤ n ∧ Rq extE (fun x => w.heap.size ≤ x) w.heap.size 50 wr Ar k cr xs ∧ Below w.heap.size w wr)
  case atStart => exact ⟨0, 1, none, 0, [], by omega, rfl, rfl, rfl, hp0, by omega, Rq.nil _ _ _ _ _, Below.refl _ _⟩
  case round =>
    clear hp0
    obtain ⟨k, p, Ar, cr, xs, hk, rfl, rfl, rfl, hg, hpn, R, bb⟩ := hrel
    replace hc0 := (bb.cell (by rw [add_block]; exact hbl)).trans hc0
    replace hc1 := (bb.cell hbl).trans hc1
    by_cases hlt : (k : Int) < (C : Int)
    · obtain ⟨g, rfl⟩ : ∃ g, gk = g + 1 := ⟨gk - 1, by omega⟩
      by_cases h7 : (n : Int) - (p : Int) < 7
      · have hr : Hid (xrd (c0 :: t0) = none) := xrd_none hC.out (show k + 1 ≤ C by omega) (par_no hg.out (by rw [HN.out]; exact hpn) (.inl (by rw [HN.out]; omega)))
        go_wp2
        go_ret2
        exact RdPost.no hr.out bb
      have h7n : p + 7 ≤ n := by omega
      have ht7 : 7 ≤ (b.drop p).length := by rw [List.length_drop, HN.out]; omega
      obtain ⟨t, htd⟩ : ∃ t, b.drop p = t := ⟨_, rfl⟩
      obtain ⟨p7, hp7⟩ : ∃ p7, p + 7 = p7 := ⟨_, rfl⟩
      have e7 : p7 - p = 7 := by omega
      have hcut := fun W => run_cut2 (P := Try.prog) 35 5 un22 el22 sz5 (some ad) n c .i64 .i64 (p : Int) ((p : Int) + 7) p p7 rfl (by omega) (by omega) (by omega) W
      have HB := (h.below bb).cut (k := p) (m := p7) (by omega) (by omega)
      rw [← List.map_take, ← List.map_drop, List.drop_take, e7, htd] at HB
      rw [e7] at hcut
      rw [htd] at hg ht7
      generalize cutA (some ad) c p = A7 at *
      obtain ⟨c7, hc7⟩ : ∃ x, c - p = x := ⟨_, rfl⟩
      rw [hc7] at HB
      simp only [hc7] at hcut
      replace hp7 := Lib.hid hp7
      clear hc7 e7
      go_wp2_with fail
      refine (NumsErr.ok (refUnpack_any ⟨#[98, 98, 98, 119]⟩ A7 7 c7 (t.take 7) wr HB (by decide) (by omega)) (xunpack_head ht7)).mono ?_
      rintro e w2 ⟨A2, n2, c2, rfl, s2, f2, b2⟩
      obtain ⟨g2, rfl, rfl, hc4, hcb, hg0, hg1, g0, g1, g2', g3⟩ := nums4x f2
      have lLa := hLa_lt t
      have lN := hN_lt t
      have lK := hK_lt t
      have lG := hG_lt t
      rw [xnat64 (Nat.lt_of_lt_of_le lLa (by decide))] at g0
      rw [xnat64 (Nat.lt_of_lt_of_le lN (by decide))] at g1
      rw [xnat64 (Nat.lt_of_lt_of_le lK (by decide))] at g2'
      rw [xnat64 (Nat.lt_of_lt_of_le lG (by decide))] at g3
      clear s2 f2 HB hcut
      replace R := R.under b2
      replace bb := bb.trans (b2.mono bb.size)
      clear b2
      have hX0 : (hX t).la = (hLa t : Int) ∧ (hX t).n = (hN t : Int) ∧ (hX t).k = (hK t : Int) ∧ (hX t).g = (hG t : Int) := ⟨rfl, rfl, rfl, rfl⟩
      have hXl : (hX t).l = (t.drop 7).take (hM t) := rfl
      have hMd := hM_is t
      obtain ⟨x, hx⟩ : ∃ x, hX t = x := ⟨_, rfl⟩
      obtain ⟨La, HL⟩ : ∃ M, hLa t = M := ⟨_, rfl⟩
      obtain ⟨N, HNn⟩ : ∃ M, hN t = M := ⟨_, rfl⟩
      obtain ⟨Kd, HK⟩ : ∃ M, hK t = M := ⟨_, rfl⟩
      obtain ⟨G, HG⟩ : ∃ M, hG t = M := ⟨_, rfl⟩
      obtain ⟨M, hMM⟩ : ∃ M, hM t = M := ⟨_, rfl⟩
      rw [HL] at g0 lLa
      rw [HNn] at g1 lN
      rw [HK] at g2' lK
      rw [HG] at g3 lG
      rw [HNn, HK, hMM] at hMd
      rw [HL, HNn, HK, HG, hx] at hX0
      rw [hx, hMM] at hXl
      clear HL HNn HK HG
      have hgn : ∀ pe : Nat, pe = p7 + M → pe ≤ n → parX (k + 1) t0 = some (xs ++ [x], b.drop pe) := fun pe h1 h2 => by
        rw [← hx, ← htd]
        exact par_yes (b := b) (p := p) (M := M) (by rw [htd]; exact hg.out) (by rw [htd]; exact hMM) (by have := hp7.out; omega) (by rw [HN.out]; exact h2)
      have hgo : n < p7 + M → xrd (c0 :: t0) = none := fun h1 => xrd_none hC.out (show k + 1 ≤ C by omega) (par_no (by rw [htd]; exact hg.out) (by rw [HN.out]; exact hpn) (.inr (by rw [HN.out, htd, hMM]; have := hp7.out; omega)))
      have hX0' := Lib.hid hX0
      have hXl' := Lib.hid hXl
      have hMd' := Lib.hid hMd
      have hgn' := Lib.hid hgn
      have hgo' := Lib.hid hgo
      have hg' := hg
      clear hX0 hXl hMd hgn hgo hg hMM hx
      have j0 : wrap64 (La : Int) = La := by unfold wrap64; omega
      have j1 : wrap64 (N : Int) = N := by unfold wrap64; omega
      have j2 : wrap64 (Kd : Int) = Kd := by unfold wrap64; omega
      have j3 : wrap64 (G : Int) = G := by unfold wrap64; omega
      have i0' : IntKind.i64.wrap (La : Int) = La := (IntWalk.i64_left _).trans j0
      have i1' : IntKind.i64.wrap (N : Int) = N := (IntWalk.i64_left _).trans j1
      have i2' : IntKind.i64.wrap (Kd : Int) = Kd := (IntWalk.i64_left _).trans j2
      have i3' : IntKind.i64.wrap (G : Int) = G := (IntWalk.i64_left _).trans j3
      clear j0 j1 j2 j3
      go_wp2_with fail
      refine wp_region_held_drew (S := fun w' => Below w2.heap.size w2 w') (by kernel_rfl) (Below.refl _ _).drew (fun hHeld => ?_)
      try dsimp only at hHeld
      have bd : Below w2.heap.size w2 w2.drew := (Below.refl w2.heap.size w2).drew
      generalize w2.drew = wd at *
      try simp only [Act.put, List.setIfInBounds_toArray, List.set_cons_zero, List.set_cons_succ]
      refine wpAnyH_take (i := 0) (v := ?_) (by simp only [List.getElem?_toArray, List.getElem?_cons_zero]; rfl) (by kernel_rfl) (by kernel_rfl) (by kernel_rfl) (by intro _ _ _ h; exact h) (Or.inl ⟨by rfl, ?_⟩) hHeld ?_
      rotate_left 1
      · intro wq hSw
        try dsimp only at hSw
        go_simp
        try (with_reducible rfl)
      try simp only [Act.put, List.setIfInBounds_toArray, List.set_cons_zero, List.set_cons_succ]
      refine wpAnyH_take (i := 1) (v := ?_) (by simp only [List.getElem?_toArray, List.getElem?_cons_succ, List.getElem?_cons_zero]; rfl) (by kernel_rfl) (by kernel_rfl) (by kernel_rfl) (by intro _ _ _ h; exact h) (Or.inl ⟨by rfl, ?_⟩) hHeld ?_
      rotate_left 1
      · intro wq hSw
        try dsimp only at hSw
        go_simp
        try (with_reducible rfl)
      try simp only [Act.put, List.setIfInBounds_toArray, List.set_cons_zero, List.set_cons_succ]
      refine wpAnyH_take (i := 2) (v := ?_) (by simp only [List.getElem?_toArray, List.getElem?_cons_succ, List.getElem?_cons_zero]; rfl) (by kernel_rfl) (by kernel_rfl) (by kernel_rfl) (by intro _ _ _ h; exact h) (Or.inl ⟨by rfl, ?_⟩) hHeld ?_
      rotate_left 1
      · intro wq hSw
        try dsimp only at hSw
        have x := (hSw.cell (p := ⟨g2, 0, none⟩) hg1).trans g0
        go_simp
        try (with_reducible rfl)
      try simp only [Act.put, List.setIfInBounds_toArray, List.set_cons_zero, List.set_cons_succ]
      refine wpAnyH_take (i := 3) (v := ?_) (by simp only [List.getElem?_toArray, List.getElem?_cons_succ, List.getElem?_cons_zero]; rfl) (by kernel_rfl) (by kernel_rfl) (by kernel_rfl) (by intro _ _ _ h; exact h) (Or.inl ⟨by rfl, ?_⟩) hHeld ?_
      rotate_left 1
      · intro wq hSw
        try dsimp only at hSw
        go_simp
        try (with_reducible rfl)
      try simp only [Act.put, List.setIfInBounds_toArray, List.set_cons_zero, List.set_cons_succ]
      refine wpAnyH_take (i := 4) (v := ?_) (by simp only [List.getElem?_toArray, List.getElem?_cons_succ, List.getElem?_cons_zero]; rfl) (by kernel_rfl) (by kernel_rfl) (by kernel_rfl) (by intro _ _ _ h; exact h) (Or.inl ⟨by rfl, ?_⟩) hHeld ?_
      rotate_left 1
      · intro wq hSw
        try dsimp only at hSw
        go_simp
        try (with_reducible rfl)
      try simp only [Act.put, List.setIfInBounds_toArray, List.set_cons_zero, List.set_cons_succ]
      refine wpAnyH_take (i := 5) (v := ?_) (by simp only [List.getElem?_toArray, List.getElem?_cons_succ, List.getElem?_cons_zero]; rfl) (by kernel_rfl) (by kernel_rfl) (by kernel_rfl) (by intro _ _ _ h; exact h) (Or.inl ⟨by rfl, ?_⟩) hHeld ?_
      rotate_left 1
      · intro wq hSw
        try dsimp only at hSw
        go_simp
        try (with_reducible rfl)
      try simp only [Act.put, List.setIfInBounds_toArray, List.set_cons_zero, List.set_cons_succ]
      refine wpAnyH_take (i := 6) (v := ?_) (by simp only [List.getElem?_toArray, List.getElem?_cons_succ, List.getElem?_cons_zero]; rfl) (by kernel_rfl) (by kernel_rfl) (by kernel_rfl) (by intro _ _ _ h; exact h) (Or.inl ⟨by rfl, ?_⟩) hHeld ?_
      rotate_left 1
      · intro wq hSw
        try dsimp only at hSw
        have x := (hSw.cell (p := ⟨g2, 1, none⟩) hg1).trans g1
        go_simp
        try (with_reducible rfl)
      try simp only [Act.put, List.setIfInBounds_toArray, List.set_cons_zero, List.set_cons_succ]
      refine wpAnyH_take (i := 7) (v := ?_) (by simp only [List.getElem?_toArray, List.getElem?_cons_succ, List.getElem?_cons_zero]; rfl) (by kernel_rfl) (by kernel_rfl) (by kernel_rfl) (by intro _ _ _ h; exact h) (Or.inl ⟨by rfl, ?_⟩) hHeld ?_
      rotate_left 1
      · intro wq hSw
        try dsimp only at hSw
        go_simp
        try (with_reducible rfl)
      try simp only [Act.put, List.setIfInBounds_toArray, List.set_cons_zero, List.set_cons_succ]
      refine wpAnyH_take (i := 8) (v := ?_) (by simp only [List.getElem?_toArray, List.getElem?_cons_succ, List.getElem?_cons_zero]; rfl) (by kernel_rfl) (by kernel_rfl) (by kernel_rfl) (by intro _ _ _ h; exact h) (Or.inl ⟨by rfl, ?_⟩) hHeld ?_
      rotate_left 1
      · intro wq hSw
        try dsimp only at hSw
        go_simp
        try (with_reducible rfl)
      try simp only [Act.put, List.setIfInBounds_toArray, List.set_cons_zero, List.set_cons_succ]
      refine wpAnyH_take (i := 9) (v := ?_) (by simp only [List.getElem?_toArray, List.getElem?_cons_succ, List.getElem?_cons_zero]; rfl) (by kernel_rfl) (by kernel_rfl) (by kernel_rfl) (by intro _ _ _ h; exact h) (Or.inl ⟨by rfl, ?_⟩) hHeld ?_
      rotate_left 1
      · intro wq hSw
        try dsimp only at hSw
        go_simp
        try (with_reducible rfl)
      try simp only [Act.put, List.setIfInBounds_toArray, List.set_cons_zero, List.set_cons_succ]
      refine wpAnyH_take (i := 10) (v := ?_) (by simp only [List.getElem?_toArray, List.getElem?_cons_succ, List.getElem?_cons_zero]; rfl) (by kernel_rfl) (by kernel_rfl) (by kernel_rfl) (by intro _ _ _ h; exact h) (Or.inl ⟨by rfl, ?_⟩) hHeld ?_
      rotate_left 1
      · intro wq hSw
        try dsimp only at hSw
        have x := (hSw.cell (p := ⟨g2, 2, none⟩) hg1).trans g2'
        go_simp
        try (with_reducible rfl)
      try simp only [Act.put, List.setIfInBounds_toArray, List.set_cons_zero, List.set_cons_succ]
      refine wpAnyH_take (i := 11) (v := ?_) (by simp only [List.getElem?_toArray, List.getElem?_cons_succ, List.getElem?_cons_zero]; rfl) (by kernel_rfl) (by kernel_rfl) (by kernel_rfl) (by intro _ _ _ h; exact h) (Or.inl ⟨by rfl, ?_⟩) hHeld ?_
      rotate_left 1
      · intro wq hSw
        try dsimp only at hSw
        go_simp
        try (with_reducible rfl)
      try simp only [Act.put, List.setIfInBounds_toArray, List.set_cons_zero, List.set_cons_succ]
      refine wpAnyH_take (i := 12) (v := ?_) (by simp only [List.getElem?_toArray, List.getElem?_cons_succ, List.getElem?_cons_zero]; rfl) (by kernel_rfl) (by kernel_rfl) (by kernel_rfl) (by intro _ _ _ h; exact h) (Or.inl ⟨by rfl, ?_⟩) hHeld ?_
      rotate_left 1
      · intro wq hSw
        try dsimp only at hSw
        go_simp
        try (with_reducible rfl)
      try simp only [Act.put, List.setIfInBounds_toArray, List.set_cons_zero, List.set_cons_succ]
      refine wpAnyH_take (i := 13) (v := ?_) (by simp only [List.getElem?_toArray, List.getElem?_cons_succ, List.getElem?_cons_zero]; rfl) (by kernel_rfl) (by kernel_rfl) (by kernel_rfl) (by intro _ _ _ h; exact h) (Or.inl ⟨by rfl, ?_⟩) hHeld ?_
      rotate_left 1
      · intro wq hSw
        try dsimp only at hSw
        go_simp
        try (with_reducible rfl)
      try simp only [Act.put, List.setIfInBounds_toArray, List.set_cons_zero, List.set_cons_succ]
      refine wpAnyH_take (i := 14) (v := ?_) (by simp only [List.getElem?_toArray, List.getElem?_cons_succ, List.getElem?_cons_zero]; rfl) (by kernel_rfl) (by kernel_rfl) (by kernel_rfl) (by intro _ _ _ h; exact h) (Or.inl ⟨by rfl, ?_⟩) hHeld ?_
      rotate_left 1
      · intro wq hSw
        try dsimp only at hSw
        have x := (hSw.cell (p := ⟨g2, 3, none⟩) hg1).trans g3
        go_simp
        try (with_reducible rfl)
      try simp only [Act.put, List.setIfInBounds_toArray, List.set_cons_zero, List.set_cons_succ]
      refine wpAnyH_take (i := 15) (v := ?_) (by simp only [List.getElem?_toArray, List.getElem?_cons_succ, List.getElem?_cons_zero]; rfl) (by kernel_rfl) (by kernel_rfl) (by kernel_rfl) (by intro _ _ _ h; exact h) (Or.inl ⟨by rfl, ?_⟩) hHeld ?_
      rotate_left 1
      · intro wq hSw
        try dsimp only at hSw
        go_simp
        try (with_reducible rfl)
      try simp only [Act.put, List.setIfInBounds_toArray, List.set_cons_zero, List.set_cons_succ]
      refine wpAnyH_take (i := 16) (v := ?_) (by simp only [List.getElem?_toArray, List.getElem?_cons_succ, List.getElem?_cons_zero]; rfl) (by kernel_rfl) (by kernel_rfl) (by kernel_rfl) (by intro _ _ _ h; exact h) (Or.inl ⟨by rfl, ?_⟩) hHeld ?_
      rotate_left 1
      · intro wq hSw
        try dsimp only at hSw
        go_simp
        try (with_reducible rfl)
      try simp only [Act.put, List.setIfInBounds_toArray, List.set_cons_zero, List.set_cons_succ]
      refine wpAnyH_ready (rs := [17]) (by kernel_rfl) (by simp) ?_
      refine AllReadyH.cons (by simp only [List.getElem?_toArray, List.getElem?_cons_succ, List.getElem?_cons_zero]; rfl) (fun K hK => ?_) AllReadyH.nil
      obtain ⟨kv, hkv⟩ : ∃ k, wd.heap.size = k := ⟨_, rfl⟩
      go_simp
      try simp only [hkv]
      have X := Blk.new wd #[.int .i64 0, .int .i64 0, .int .i64 0, .int .i64 0, .slice none 0 0] 50
      rw [hkv] at X
      have hcv : w2.heap.size ≤ kv := by rw [← hkv]; exact bd.size
      replace bd := bd.alloc bd.size (.cells #[.int .i64 0, .int .i64 0, .int .i64 0, .int .i64 0, .slice none 0 0] 50)
      clear hkv
      generalize wd.alloc (.cells #[.int .i64 0, .int .i64 0, .int .i64 0, .int .i64 0, .slice none 0 0] 50) = wu at *
      refine hK.out _ _ (bd) (fun hHeld => ?_)
      clear hK K
      try dsimp only at hHeld
      try simp only [Act.put, List.setIfInBounds_toArray, List.set_cons_zero, List.set_cons_succ]
      refine wpAnyH_ready (rs := [18]) (by kernel_rfl) (by simp) ?_
      refine AllReadyH.cons (by simp only [List.getElem?_toArray, List.getElem?_cons_succ, List.getElem?_cons_zero]; rfl) (fun K hK => ?_) AllReadyH.nil
      obtain ⟨z0, z1, z2, z3, z4, y0, y1, y2, y3, y4⟩ := X.five
      go_simp
      have X2 := (((((X.set 0 (.int .i64 (La : Int))).set 1 (.int .i64 (N : Int))).set 2 (.int .i64 (Kd : Int))).set 3 (.int .i64 (G : Int))).set 4 (.slice none 0 0))
      simp only [List.setIfInBounds_toArray, List.set_cons_zero, List.set_cons_succ] at X2
      have bd2 := (((((bd.setCell (p := ⟨kv, 0, none⟩) (hcv) (.int .i64 (La : Int))).setCell (p := ⟨kv, 1, none⟩) (hcv) (.int .i64 (N : Int))).setCell (p := ⟨kv, 2, none⟩) (hcv) (.int .i64 (Kd : Int))).setCell (p := ⟨kv, 3, none⟩) (hcv) (.int .i64 (G : Int))).setCell (p := ⟨kv, 4, none⟩) (hcv) (.slice none 0 0))
      clear z0 z1 z2 z3 z4 y0 y1 y2 y3 y4 X bd
      generalize (((((wu.setCell ⟨kv, 0, none⟩ (.int .i64 (La : Int))).setCell ⟨kv, 1, none⟩ (.int .i64 (N : Int))).setCell ⟨kv, 2, none⟩ (.int .i64 (Kd : Int))).setCell ⟨kv, 3, none⟩ (.int .i64 (G : Int))).setCell ⟨kv, 4, none⟩ (.slice none 0 0)) = wv at *
      refine hK.out _ _ (bd2) (fun hHeld => ?_)
      clear hK K
      try dsimp only at hHeld
      try simp only [Act.put, List.setIfInBounds_toArray, List.set_cons_zero, List.set_cons_succ]
      refine wpAnyH_done (by kernel_rfl) ?_ _
      have hws : w.heap.size ≤ w2.heap.size := bb.size
      replace R := R.imp (F' := fun z => w.heap.size ≤ z ∧ z ≠ kv) (fun z hz hF => ⟨hF, by omega⟩)
      have hro := R.lt
      have hown : ∀ z, (Value.slice Ar k cr).ownBlock = some z → z < kv := fun z hz => by have := (hro z hz).2; omega
      replace R := R.under bd2
      replace bb := bb.trans (bd2.mono bb.size)
      clear bd2 g0 g1 g2' g3 i0' i1' i2' i3' hc4 hcb hg0 hg1 hro
      obtain ⟨x0', x1', x2', x3', x4', _⟩ := X2.five
      have h7b : p7 ≤ n := by have := hp7.out; omega
      by_cases hk2 : Kd = 2
      · skip
        subst hk2
        have hMd2 : M = 32 * N := by rw [hMd'.out, if_pos rfl]
        have hMb : M ≤ 8160 := by omega
        replace hMd2 := Lib.hid hMd2
        have hp7' := hp7.out
        by_cases hs : (n : Int) - ((p : Int) + 7) < 32 * (N : Int)
        · have hr := hgo'.out (by have := hMd2.out; omega)
          replace hr := Lib.hid hr
          go_wp2
          go_ret2
          exact RdPost.no hr.out bb
        obtain ⟨pe, hpe⟩ : ∃ pe, p7 + M = pe := ⟨_, rfl⟩
        have hpn2 : pe ≤ n := by have := hMd2.out; omega
        have e7 : pe - p7 = M := by omega
        have hgn := Lib.hid (hgn'.out pe hpe.symm hpn2)
        have hcut := fun W => run_cut2 (P := Try.prog) 35 5 un22 el22 sz5 (some ad) n c .i64 .i64 ((p : Int) + 7) ((p : Int) + 7 + 32 * (N : Int)) p7 pe (by omega) (by have := hMd2.out; omega) (by omega) (by omega) W
        have HB := (h.below bb).cut (k := p7) (m := pe) (by omega) (by omega)
        rw [← List.map_take, ← List.map_drop, List.drop_take, e7] at HB
        rw [e7] at hcut
        have hdt : (b.drop p7).take M = x.l := by rw [hXl'.out, ← htd, List.drop_drop, hp7.out]
        rw [hdt] at HB
        have hxl : Hid (x.l.length = M) := HB.len8
        generalize cutA (some ad) c p7 = A8 at *
        obtain ⟨c8, hc8⟩ : ∃ x, c - p7 = x := ⟨_, rfl⟩
        rw [hc8] at HB
        simp only [hc8] at hcut
        replace hpe := Lib.hid hpe
        replace hp7' := Lib.hid hp7'
        clear hc8 e7 hdt
        have O0 := Own.empty wv 5
        have a0 := (Below.refl wv.heap.size wv).alloc (Nat.le_refl _) (.cells #[] 5)
        obtain ⟨A4, c4, w4, hr, hO⟩ := run_app (P := Try.prog) O0 35 35 i0 (.int .u8 0) 1 Try.underlying35 hi0 hz0 hz1 hz2 rfl _ _ _ _ (HB.below a0) (oneCell8 _) (by omega) (by omega)
        have b4 := hO.below_made
        have N4 := hO.own
        rw [List.nil_append, Nat.zero_add] at N4
        rw [Nat.zero_add] at hr
        have hfk : ∀ ad', A4 = some ad' → wv.heap.size ≤ ad'.block := fun ad' e => by subst e; exact (World.ownsRow.lt N4 ad'.block rfl).1
        have S4 := Sl.of_own N4
        have hkl := X2.lt
        clear O0 a0 hO N4 HB
        skip
        have X4 := X2.under b4
        have R4 := R.under b4
        have bb4 := bb.trans (b4.mono bb.size)
        have hkw : w.heap.size ≤ kv := by omega
        clear R bb
        obtain ⟨y0', y1', y2', y3', y4', f0, f1, f2, f3, f4⟩ := X4.five
        go_upto_region 17 with (at_builtin; refine wpList_run rfl (.tmp 67) (.tmp 75) 35 rfl rfl rfl hr ?_; intro _)
        clear x0' x1' x2' x3' x4' y0' y1' y2' y3' y4' f0 f1 f2 f3 f4 hr hcut X2
        have X5 := X4.set 4 (.slice A4 M c4)
        simp only [List.setIfInBounds_toArray, List.set_cons_zero, List.set_cons_succ] at X5
        have hkb : ∀ z, (Value.slice Ar k cr).ownBlock = some z → (some kv : Option Nat) ≠ some z := fun z hz e => by have := hown z hz; cases e; omega
        have R := R4.grown (grown_set w4 ⟨kv, 4, none⟩ (.slice A4 M c4)) hkb (fun z _ hz e => hz.2 (Option.some.inj e).symm)
        have S5 := S4.far (a := ⟨kv, 4, none⟩) (fun ad' e => by have := hfk ad' e; exact fun e2 => by dsimp only at e2; omega) (.slice A4 M c4)
        have bb := bb4.setCell (p := ⟨kv, 4, none⟩) hkw (.slice A4 M c4)
        clear X4 R4 S4 bb4 hkb b4
        generalize w4.setCell ⟨kv, 4, none⟩ (.slice A4 M c4) = w5 at *
        obtain ⟨x0', x1', x2', x3', x4', _⟩ := X5.five
        have hrd : extE.rd (fun z => (w.heap.size ≤ z ∧ z ≠ kv) ∧ (Value.slice Ar k cr).ownBlock ≠ some z) w5 [.int .i64 (La : Int), .int .i64 (N : Int), .int .i64 2, .int .i64 (G : Int), .slice A4 M c4] x := ⟨A4, c4, by rw [hX0'.out.1, hX0'.out.2.1, hX0'.out.2.2.1, hX0'.out.2.2.2, hxl.out] <;> rfl, by rw [hxl.out]; exact S5, fun _ ad' e => ⟨⟨by have := hfk ad' e; omega, by have := hfk ad' e; omega⟩, fun e2 => by have := hown _ e2; have := hfk ad' e; omega⟩⟩
        have a1 := (Below.refl w5.heap.size w5).alloc (Nat.le_refl _) (.cells #[.int .i64 (La : Int), .int .i64 (N : Int), .int .i64 (2 : Int), .int .i64 (G : Int), .slice A4 M c4] 50)
        have Bs := Blk.new w5 #[.int .i64 (La : Int), .int .i64 (N : Int), .int .i64 (2 : Int), .int .i64 (G : Int), .slice A4 M c4] 50
        clear x0' x1' x2' x3' x4'
        have X9 := X5.alloc (.cells #[.int .i64 (La : Int), .int .i64 (N : Int), .int .i64 (2 : Int), .int .i64 (G : Int), .slice A4 M c4] 50)
        obtain ⟨x0', x1', x2', x3', x4', _⟩ := X5.five
        replace R := R.under a1
        replace hrd := Elt.below hrd a1
        replace bb := bb.trans (a1.mono bb.size)
        obtain ⟨A5, c5, w6, hr, R5, gr, hlies⟩ := R.app (P := Try.prog) (T := 23) (ty := 23) Try.underlying23 hiX hzX hsX hbX rfl bb.size (by omega) (by omega) hrd (one_ext _ _ _ _ _ _ _) Bs
        have hro := R.lt
        have bb6 := bb.grown gr bb.size (fun z hz => (hro z hz).1)
        clear hro gr hrd Bs hlies R bb a1
        go_wp2_with (at_builtin; refine wpList_run rfl (.tmp 83) (.tmp 85) 23 rfl rfl rfl hr ?_; intro _)
        replace R5 := R5.imp (F' := fun z => w.heap.size ≤ z) (fun z _ hz => hz.1)
        go_roundg g
        case measure => omega
        case rel => exact ⟨k + 1, pe, A5, c5, _, by omega, rfl, by have := hp7.out; have := hpe.out; have := hMd2.out; first | rfl | (congr 1; omega) | (simp; omega), by first | rfl | (simp; done) | (simp; exact wrap64_small (by omega) (by omega)), hgn.out, by omega, R5, bb6⟩
      · skip
        have hk2i : ¬ (Kd : Int) = 2 := by omega
        have hM0 : M = 0 := by rw [hMd'.out, if_neg hk2]
        have hxl : Hid (x.l.length = 0) := by show x.l.length = 0; rw [hXl'.out, hM0]; rfl
        have hxn : x.l = [] := List.length_eq_zero_iff.1 hxl.out
        have hgn := Lib.hid (hgn'.out p7 (by omega) h7b)
        replace hk2 := Lib.hid hk2
        have X5 := X2
        clear X2
        have hrd : extE.rd (fun z => (w.heap.size ≤ z ∧ z ≠ kv) ∧ (Value.slice Ar k cr).ownBlock ≠ some z) wv [.int .i64 (La : Int), .int .i64 (N : Int), .int .i64 (Kd : Int), .int .i64 (G : Int), .slice none 0 0] x := ⟨none, 0, by rw [hX0'.out.1, hX0'.out.2.1, hX0'.out.2.2.1, hX0'.out.2.2.2, hxl.out] <;> rfl, by rw [hxl.out]; exact (by rw [hxn]; exact Sl.nil _), fun h0 => absurd h0 (by rw [hxl.out]; omega)⟩
        have a1 := (Below.refl wv.heap.size wv).alloc (Nat.le_refl _) (.cells #[.int .i64 (La : Int), .int .i64 (N : Int), .int .i64 (Kd : Int), .int .i64 (G : Int), .slice none 0 0] 50)
        have Bs := Blk.new wv #[.int .i64 (La : Int), .int .i64 (N : Int), .int .i64 (Kd : Int), .int .i64 (G : Int), .slice none 0 0] 50
        clear x0' x1' x2' x3' x4'
        have X9 := X5.alloc (.cells #[.int .i64 (La : Int), .int .i64 (N : Int), .int .i64 (Kd : Int), .int .i64 (G : Int), .slice none 0 0] 50)
        obtain ⟨x0', x1', x2', x3', x4', _⟩ := X5.five
        replace R := R.under a1
        replace hrd := Elt.below hrd a1
        replace bb := bb.trans (a1.mono bb.size)
        obtain ⟨A5, c5, w6, hr, R5, gr, hlies⟩ := R.app (P := Try.prog) (T := 23) (ty := 23) Try.underlying23 hiX hzX hsX hbX rfl bb.size (by omega) (by omega) hrd (one_ext _ _ _ _ _ _ _) Bs
        have hro := R.lt
        have bb6 := bb.grown gr bb.size (fun z hz => (hro z hz).1)
        clear hro gr hrd Bs hlies R bb a1
        go_wp2_with (at_builtin; refine wpList_run rfl (.tmp 83) (.tmp 85) 23 rfl rfl rfl hr ?_; intro _)
        replace R5 := R5.imp (F' := fun z => w.heap.size ≤ z) (fun z _ hz => hz.1)
        go_roundg g
        case measure => omega
        case rel => exact ⟨k + 1, p7, A5, c5, _, by omega, rfl, by have := hp7.out; first | rfl | (congr 1; omega) | (simp; omega), by first | rfl | (simp; done) | (simp; exact wrap64_small (by omega) (by omega)), hgn.out, by omega, R5, bb6⟩
    · obtain rfl : k = C := by omega
      have hfn := xrd_fin hC.out hg.out
      have RS := (R.imp (F' := fun z => w.heap.size ≤ z) (fun z _ hz => hz)).toRs (fun z _ hz => hz)
      have hC2 := fWrite_any xs Ar k cr wr RS
      have hxk : Hid (k = xs.length) := RS.len.symm
      cases hw : xwr xs with
      | none =>
        have hr : Hid (xrd (c0 :: t0) = none) := by show xrd (c0 :: t0) = none; rw [hfn, hw, if_neg (by simp)]
        rw [hw] at hC2
        replace hfn := Lib.hid hfn
        go_wp2_with fail
        refine hC2.mono ?_
        rintro e w2 ⟨A2, n2, c2, rfl, s2, f2, b2⟩
        have e70 : errOf (none : Option (List UInt8)) 70 = 70 := rfl
        rw [e70]
        go_wp2
        go_ret2
        exact RdPost.no hr.out (bb.trans (b2.mono bb.size))
      | some wb =>
        rw [hw] at hC2 hfn
        have e70 : errOf (some wb) 70 = 0 := rfl
        by_cases hwb : wb = b
        · subst hwb
          have hr : Hid (xrd (c0 :: t0) = some xs) := by show xrd (c0 :: t0) = some xs; rw [hfn, if_pos (congrArg some hb.out)]
          replace hfn := Lib.hid hfn
          go_wp2_with fail
          refine hC2.mono ?_
          rintro e w2 ⟨A2, n2, c2, rfl, s2, f2, b2⟩
          rw [e70]
          have q1 := str_of s2
          have q2 := str_of ((h.below bb).below b2)
          rw [Option.getD_some] at q1
          have qe : ((⟨wb.toArray⟩ : ByteArray) == ⟨wb.toArray⟩) = true := by show (wb.toArray == wb.toArray) = true; simp
          go_wp2
          go_ret2
          exact RdPost.yes hr.out hxk.out (RS.below b2) (bb.trans (b2.mono bb.size))
        · have hr : Hid (xrd (c0 :: t0) = none) := by show xrd (c0 :: t0) = none; rw [hfn, if_neg (fun e => hwb ((Option.some.inj e).trans hb.out.symm))]
          have qe := str_ne7 hwb
          have qw : (wb == b) = false := by simpa using hwb
          replace hfn := Lib.hid hfn
          go_wp2_with fail
          refine hC2.mono ?_
          rintro e w2 ⟨A2, n2, c2, rfl, s2, f2, b2⟩
          rw [e70]
          have q1 := str_of s2
          have q2 := str_of ((h.below bb).below b2)
          rw [Option.getD_some] at q1
          go_wp2
          go_ret2
          exact RdPost.no hr.out (bb.trans (b2.mono bb.size))
end Go.Proofs.Ytbhohjbgbachhaa
