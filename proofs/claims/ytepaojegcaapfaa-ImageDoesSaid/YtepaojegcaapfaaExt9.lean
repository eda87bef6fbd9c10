/-
  Contract of package extent's Read (written by gen_ext9.py).
-/
import Derived.Test.YtepaojegcaapfaaExt8
import Derived.Test.YtepaojegcaapfaaGoto
namespace Go.Wag
theorem xrd_short {b : List UInt8} {cc : UInt8} {t0 : List UInt8} (hb : b = cc :: t0) {k : Nat} (hk : k < cc.toNat) {xs : List Xp} {t : List UInt8} (hg : goX k t0 = some (xs, t)) (hf : fstX t = none) : xrd b = none := by
  subst hb
  have e : goX (k + 1) t0 = none := by rw [goX_snoc k t0 xs t hg, hf]; rfl
  rw [xrd_cons, goX_none hk e]
  rfl
theorem xrd_big {b : List UInt8} {cc : UInt8} {t0 : List UInt8} (hb : b = cc :: t0) (h : ¬ cc.toNat ≤ 64) : xrd b = none := by
  subst hb
  rw [xrd_cons]
  cases hg : goX cc.toNat t0 with
  | none => rfl
  | some y =>
    simp only [Option.bind_some]
    rw [if_neg (fun hh => h hh.2)]
theorem xrd_left {b : List UInt8} {cc : UInt8} {t0 : List UInt8} (hb : b = cc :: t0) {k : Nat} (hk : k = cc.toNat) {xs : List Xp} {t : List UInt8} (hg : goX k t0 = some (xs, t)) (ht : t.length > 0) : xrd b = none := by
  subst hb hk
  rw [xrd_cons, hg]
  simp only [Option.bind_some]
  rw [if_neg (fun hh => by rw [hh.1] at ht; simp at ht)]
theorem xrd_all {b : List UInt8} {cc : UInt8} {t0 : List UInt8} (hb : b = cc :: t0) {k : Nat} (hk : k = cc.toNat) (h64 : cc.toNat ≤ 64) {xs : List Xp} {t : List UInt8} (hg : goX k t0 = some (xs, t)) (ht : t.length = 0) : xrd b = some xs := by
  subst hb hk
  rw [xrd_cons, hg]
  simp only [Option.bind_some]
  rw [if_pos ⟨List.length_eq_zero_iff.1 ht, h64⟩]
theorem goX_next {t0 : List UInt8} {k : Nat} {xs : List Xp} {t t2 : List UInt8} {x : Xp} (hg : goX k t0 = some (xs, t)) (hf : fstX t = some (x, t2)) : goX (k + 1) t0 = some (xs ++ [x], t2) := by
  rw [goX_snoc k t0 xs t hg, hf]
  rfl
end Go.Wag
namespace Go.Proofs.Ytepaojegcaapfaa
open Go.RowKit Go.Wag
set_option linter.unusedVariables false
set_option maxRecDepth 20000
/-- Extents in memory of their own, or an error. -/
def RdPost (w : World) (r : Option (List Xp)) (e : Ending) (w' : World) : Prop :=
  ∃ A k c, Hid (k = (r.getD []).length) ∧ e = .returned (.tuple #[.slice A k c, .int .i64 (errOf r 70)]) ∧ Rs extE (fun x => w.heap.size ≤ x) w' A k c (r.getD []) ∧ Below w.heap.size w w'
theorem RdPost.no {w w' : World} {r : Option (List Xp)} (hr : r = none) (hb : Below w.heap.size w w') : RdPost w r (.returned (.tuple #[.slice none 0 0, .int .i64 70])) w' := by
  subst hr
  exact ⟨none, 0, 0, rfl, rfl, Rs.nil _ _ _, hb⟩
theorem RdPost.yes {w w' : World} {r : Option (List Xp)} {xs : List Xp} {A : Option Addr} {k c : Nat} (hr : r = some xs) (hk : k = xs.length) (hR : Rs extE (fun x => w.heap.size ≤ x) w' A k c xs) (hb : Below w.heap.size w w') : RdPost w r (.returned (.tuple #[.slice A k c, .int .i64 0])) w' := by
  subst hr
  exact ⟨A, k, c, hk, rfl, hR, hb⟩
/-- What holds at Read's label. -/
def ReadAt (w : World) (A : Option Addr) (n c C : Nat) (t0 : List UInt8) (g : Nat) (a' : Act) (w' : World) : Prop :=
  ∃ (k kl gq c1 : Nat) (Ar : Option Addr) (cr : Nat) (A2 : Option Addr) (n2 c2 : Nat) (xs : List Xp) (t : List UInt8) (u9 u10 u11 u12 u13 u14 u15 u16 u17 u18 u19 u20 u21 u22 u23 u24 u25 u26 u27 u28 u29 u30 u31 u32 u33 u34 u35 u36 u37 u38 u39 u40 u41 u42 u43 u44 u45 u46 u47 u48 u49 u50 u51 u52 : Value), a' = { tmps := #[.slice A n c, undef, .slice none 0 0, .int .i64 0, .slice (some ⟨gq, 0, none⟩) 1 c1, .int .i64 0, .pointer (some ⟨kl, 0, none⟩), (.func (.func 50) #[] #[.pointer (some ⟨kl, 0, none⟩)]), .slice Ar k cr, u9, u10, u11, u12, u13, u14, u15, u16, u17, u18, u19, u20, u21, u22, u23, u24, u25, u26, u27, u28, u29, u30, u31, u32, u33, u34, u35, u36, u37, u38, u39, u40, u41, u42, u43, u44, u45, u46, u47, u48, u49, u50, u51, u52], defers := [] } ∧
    k + g = C ∧ Hid (goX k t0 = some (xs, t)) ∧ n2 ≤ 10000000000000 ∧ 1 ≤ c1 ∧ Blk w' kl #[.slice A2 n2 c2] 23 ∧ Sl w A2 n2 c2 (t.map v8) ∧ w'.cell? ⟨gq, 0, none⟩ = some (.int .u64 (C : Int)) ∧ gq < kl ∧ w.heap.size ≤ gq ∧
    Rq extE (fun x => kl + 1 ≤ x) (kl + 1) 38 w' Ar k cr xs ∧ Below w.heap.size w w' ∧ c1 ≤ 9223372036854775807
set_option maxHeartbeats 4000000 in
theorem eRead_any (A : Option Addr) (n c : Nat) (b : List UInt8) (w : World) (h : Sl w A n c (b.map v8)) (hn : n ≤ 10000000000000) :
    Calls Try.prog 16 #[.slice A n c] w (RdPost w (xrd b)) := by
  have HN : Hid (b.length = n) := h.len8
  have hcap := h.cap
  have hbig := h.big
  obtain ⟨iX, hiX, hzX, hsX, hbX⟩ := iExt
  cases hb : b with
  | nil =>
    obtain rfl : 0 = n := by have := HN.out; rw [hb] at this; exact this
    have h0 := h.upto (m := 0) (Nat.le_refl _)
    rw [hb] at h0
    go_enter Try.func16, Try.ntmps16
    go_wp2
    refine wp_scope_ghost 0 (fun _ _ _ => False) rfl (fun _ _ _ hf => hf.elim) ?_
    intro L hL
    go_wp2_with fail
    refine (NumsErr.no (Unpack_any ⟨#[98]⟩ A 0 c [] w h0 (by decide)) xunpack_none).mono ?_
    rintro e w2 ⟨A2, n2, c2, rfl, s2, f2, b2⟩
    go_wp2
    simp only [Exit.jump]
    go_ret2
    exact RdPost.no rfl b2
  | cons cc t0 =>
  rw [← hb]
  have hn1 : 1 ≤ n := by have := HN.out; rw [hb] at this; rw [← this]; exact Nat.succ_le_succ (Nat.zero_le _)
  have hn1' : ¬ (n : Int) < 1 := fun hh => absurd (Int.ofNat_lt.1 hh) (Nat.not_lt.2 hn1)
  have h1 := h.upto (m := 1) hn1
  rw [← List.map_take] at h1
  obtain ⟨C, hC⟩ : ∃ C, Hid (cc.toNat = C) := ⟨_, rfl⟩
  have hCc : C < 256 := by rw [← hC.out]; exact cc.toNat_lt
  have hun := Lib.hid (xunpack_one cc t0 hb)
  replace hb := Lib.hid hb
  by_cases hbig64 : 64 < C
  · have hC64 : (C : Int) > 64 := Int.ofNat_lt.2 hbig64
    have hr := Lib.hid (xrd_big hb.out (by rw [hC.out]; exact Nat.not_le.2 hbig64))
    go_enter Try.func16, Try.ntmps16
    go_wp2
    refine wp_scope_ghost 0 (fun _ _ _ => False) rfl (fun _ _ _ hf => hf.elim) ?_
    intro L hL
    go_wp2_with fail
    refine (NumsErr.ok (Unpack_any ⟨#[98]⟩ A 1 c (b.take 1) w h1 (by decide)) hun.out).mono ?_
    rintro e w2 ⟨A2, n2, c2, rfl, s2, f2, b2⟩
    obtain ⟨g, rfl, rfl, hc4, hcb, hg0, hg1, g0⟩ := nums1x f2
    rw [hC.out, xnat64 (Nat.lt_of_lt_of_le hCc (by decide))] at g0
    go_wp2
    simp only [Exit.jump]
    go_ret2
    exact RdPost.no hr.out b2
  have hC64 : ¬ (C : Int) > 64 := fun hh => hbig64 (Int.ofNat_lt.1 hh)
  have w1 : wrap64 (C : Int) = C := by unfold wrap64; omega
  have w2 : IntKind.i64.wrap (C : Int) = C := (IntWalk.i64_left _).trans w1
  go_enter Try.func16, Try.ntmps16
  go_wp2
  refine wp_scope_ghost 0 (ReadAt w A n c C t0) rfl ?_ ?_
  · rintro g a' w' ⟨k, kl, gq, c1, Ar, cr, A2, n2, c2, xs, t, u9, u10, u11, u12, u13, u14, u15, u16, u17, u18, u19, u20, u21, u22, u23, u24, u25, u26, u27, u28, u29, u30, u31, u32, u33, u34, u35, u36, u37, u38, u39, u40, u41, u42, u43, u44, u45, u46, u47, u48, u49, u50, u51, u52, rfl, hkg, hG, hn2, hc1, L, S, hq, hqk, hwq, Rr, bb, hcb1⟩ J hJ
    have hwl : w.heap.size ≤ kl := by omega
    obtain ⟨l0, _⟩ := L.one
    have ht : t.length = n2 := S.len8
    by_cases hlt : (k : Int) < (C : Int)
    · have hkC : k < C := Int.ofNat_lt.1 hlt
      go_wp2_with fail
      cases hf : fstX t with
      | none =>
        have hC0 := eTake_any kl A2 n2 c2 t w' L (S.below bb) hn2
        rw [hf] at hC0
        refine hC0.mono ?_
        clear hC0
        rintro e w3 ⟨rfl, L3, gr⟩
        replace bb := bb.grown gr (by have := L.lt; omega) (fun x hx => by have := Option.some.inj hx; omega)
        go_wp2
        simp only [Exit.jump]
        go_ret2
        exact RdPost.no (xrd_short hb.out (by rw [hC.out]; exact hkC) hG.out hf) (bb.alloc bb.size _)
      | some y =>
        obtain ⟨x, t2⟩ := y
        have hC0 := eTake_any kl A2 n2 c2 t w' L (S.below bb) hn2
        rw [hf] at hC0
        refine hC0.mono ?_
        clear hC0
        rintro e w3 ⟨A4, m, c4, hm, rfl, S4, fr, L3, gr⟩
        dsimp only at hm S4 L3
        have hfs := fst_some hf
        have hro := Rr.lt
        have hmM : m = hM t := hm.out.trans hfs.2.2.2.1
        have hS2 := S.from_ (k := 7 + m) (by rw [hmM, ← ht]; exact hfs.2.2.1)
        rw [← List.map_drop, hmM, ← hfs.2.2.2.2.1, ← hmM] at hS2
        clear hfs hmM
        have hA4 : ∀ ad, A4 = some ad → kl + 1 ≤ ad.block ∧ (Value.slice Ar k cr).ownBlock ≠ some ad.block := fun ad e => by
          have h1 := fr ad e
          refine ⟨by have := L.lt; omega, fun e2 => ?_⟩
          have := (hro _ e2).2
          omega
        have hrd : extE.rd (fun x => kl + 1 ≤ x ∧ (Value.slice Ar k cr).ownBlock ≠ some x) w3 [.int .i64 x.la, .int .i64 x.n, .int .i64 x.k, .int .i64 x.g, .slice A4 m c4] x :=
          ⟨A4, c4, by rw [hm.out], by rw [← hm.out]; exact S4, fun _ ad e => hA4 ad e⟩
        clear hA4 S4 fr
        have hkl' := L.lt
        replace Rr := Rr.grown gr (fun x hx e => by have := (hro x hx).1; have := Option.some.inj e; omega) (fun x _ hx e => by have := Option.some.inj e; omega)
        replace bb := bb.grown gr (by omega) (fun x hx => by have := Option.some.inj hx; omega)
        have hq3 : w3.cell? ⟨gq, 0, none⟩ = some (.int .u64 (C : Int)) := (World.cell?_of_block (gr.block gq (by omega) (by intro e; have := Option.some.inj e; omega))).trans hq
        clear gr hro l0 hq L
        have V := Blk.new w3 #[.int .i64 x.la, .int .i64 x.n, .int .i64 x.k, .int .i64 x.g, .slice A4 m c4] 38
        have a1 := (Below.refl w3.heap.size w3).alloc (Nat.le_refl _) (.cells #[.int .i64 x.la, .int .i64 x.n, .int .i64 x.k, .int .i64 x.g, .slice A4 m c4] 38)
        have a2 := a1.alloc a1.size (.cells #[.int .i64 x.la, .int .i64 x.n, .int .i64 x.k, .int .i64 x.g, .slice A4 m c4] 38)
        have Bs := Blk.new (w3.alloc (.cells #[.int .i64 x.la, .int .i64 x.n, .int .i64 x.k, .int .i64 x.g, .slice A4 m c4] 38)) #[.int .i64 x.la, .int .i64 x.n, .int .i64 x.k, .int .i64 x.g, .slice A4 m c4] 38
        simp only [World.size_alloc] at Bs
        have L5 := L3.under a2
        have hq5 := (a2.cell (p := ⟨gq, 0, none⟩) (by have := L3.lt; show gq < _; omega)).trans hq3
        replace Rr := Rr.under a2
        replace hrd := Elt.below hrd a2
        replace bb := bb.trans (a2.mono bb.size)
        have hs4 : kl + 1 ≤ ((w3.alloc (.cells #[.int .i64 x.la, .int .i64 x.n, .int .i64 x.k, .int .i64 x.g, .slice A4 m c4] 38)).alloc (.cells #[.int .i64 x.la, .int .i64 x.n, .int .i64 x.k, .int .i64 x.g, .slice A4 m c4] 38)).heap.size := L5.lt
        clear a1 a2
        obtain ⟨A5, c5, w5, hr, R5, gr, hlies⟩ := Rr.app (P := Try.prog) (T := 22) (ty := 22) Try.underlying22 hiX hzX hsX hbX rfl hs4 (by omega) (by omega) hrd (one_ext _ _ _ _ _ _ _) Bs
        have hro := Rr.lt
        have L6 := L5.same (gr.block _ L5.lt (fun e => by have := (hro _ e.symm).1; omega))
        have hq6 := (World.cell?_of_block (gr.block gq (by omega) (fun e => by have := (hro _ e.symm).1; omega))).trans hq5
        have bb6 := bb.grown gr (by omega) (fun x hx => by have := (hro x hx).1; omega)
        clear hro gr hrd Bs hlies Rr L5 hq5 hq3 bb L3
        obtain ⟨v0, v1, v2, v3, v4, _⟩ := V.five
        go_wp2_with (at_builtin; refine wpList_run rfl (.tmp 45) (.tmp 47) 22 rfl rfl rfl hr ?_; intro _)
        try go_step3
        exact ⟨rfl, Handed.intro (g - 1) (by omega) (hJ _ _ _ ⟨k + 1, kl, gq, c1, A5, c5, _, _, _, xs ++ [x], t2, _, _, _, _, _, _, _, _, _, _, _, _, _, _, _, _, _, _, _, _, _, _, _, _, _, _, _, _, _, _, _, _, _, _, _, _, _, _, _, _, _, _, _, _, rfl, by omega, goX_next hG.out hf, by omega, hc1, L6, hS2, hq6, hqk, hwq, R5, bb6, hcb1⟩)⟩
    · have hkC : Hid (k = C) := by unfold Hid; omega
      by_cases hl2 : (n2 : Int) > 0
      · go_wp2_with fail
        simp only [Exit.jump]
        go_ret2
        exact RdPost.no (xrd_left hb.out (by rw [hC.out]; exact hkC.out) hG.out (by omega)) bb
      · go_wp2_with fail
        simp only [Exit.jump]
        go_ret2
        exact RdPost.yes (xrd_all hb.out (by rw [hC.out]; exact hkC.out) (by rw [hC.out]; omega) hG.out (by omega)) Rr.len.symm ((Rr.imp (F' := fun x => w.heap.size ≤ x) (fun x _ hx => by omega)).toRs (fun x _ hx => by omega)) bb
  · intro L hL
    go_wp2_with fail
    refine (NumsErr.ok (Unpack_any ⟨#[98]⟩ A 1 c (b.take 1) w h1 (by decide)) hun.out).mono ?_
    rintro e w3 ⟨A2, n2, c2, rfl, s2, f2, b2⟩
    obtain ⟨g, rfl, rfl, hc4, hcb, hg0, hg1, g0⟩ := nums1x f2
    rw [hC.out, xnat64 (Nat.lt_of_lt_of_le hCc (by decide))] at g0
    have hcut := fun W => run_cut (P := Try.prog) 23 5 un22 el22 sz5 A n c .i64 (1 : Int) 1 rfl hn1 W
    have hS := h.from_ hn1
    rw [← List.map_drop, hb.out] at hS
    go_wp2
    rename_i K hK
    go_step3
    try simp only [Exit.then]
    have L := Blk.new w3 #[.slice (cutA A c 1) (n - 1) (c - 1)] 23
    have a1 := (Below.refl w3.heap.size w3).alloc (Nat.le_refl _) (.cells #[.slice (cutA A c 1) (n - 1) (c - 1)] 23)
    exact hK _ _ (hL C _ _ ⟨0, w3.heap.size, g, c2, none, 0, cutA A c 1, n - 1, c - 1, [], t0, _, _, _, _, _, _, _, _, _, _, _, _, _, _, _, _, _, _, _, _, _, _, _, _, _, _, _, _, _, _, _, _, _, _, _, _, _, _, _, _, _, _, _, _, rfl, Nat.zero_add _, rfl, Nat.le_trans (Nat.sub_le _ _) hn, hc4, L, hS, (a1.cell (p := ⟨g, 0, none⟩) hg1).trans g0, hg1, hg0, Rq.nil _ _ _ _ _, b2.trans (a1.mono b2.size), hcb⟩)
end Go.Proofs.Ytepaojegcaapfaa
