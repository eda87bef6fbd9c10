/-
  Contracts of the document's Check, Size, Write and Read of records (written by gen_rec7.py).
-/
import Derived.Test.YtjhpjhgofmlecaaDoorRec6
namespace Go.Proofs.YtjhpjhgofmlecaaDoor
open Go.RowKit Go.Wag
set_option linter.unusedVariables false
set_option linter.unusedSimpArgs false

set_option maxHeartbeats 1000000 in
theorem xCheck_any (k s : Int) (A : Option Addr) (n c : Nat) (w : World) :
    Calls Tryd.prog 16 #[.agg #[.int .i64 k, .int .i64 s, .slice A n c]] w fun e w' => e = .returned (.int .i64 (rchkE k s n)) ∧ Below w.heap.size w w' := by
  go_enter Tryd.func16, Tryd.ntmps16
  go_wp2
  all_goals
    go_ret
    go_tidy
    refine ⟨congrArg (fun b => Ending.returned (.int .i64 b)) (?_ : (_ : Int) = _), (Below.refl _ _).alloc (Nat.le_refl _) _⟩
    unfold rchkE rchk
    split <;> simp_all <;> omega

theorem xSize_any (n : Int) (w : World) : Calls Tryd.prog 18 #[.int .i64 n] w fun e w' => e = .returned (.int .i64 (rsizeF n)) ∧ w = w' := by
  by_cases h : 0 ≤ n ∧ n ≤ 4096
  · have e1 : wrap64 (n + 20) = n + 20 := by unfold wrap64; omega
    go_enter Tryd.func18, Tryd.ntmps18
    go_wp2
    all_goals
      go_ret
      exact ⟨ret_int (by rw [rsizeF, if_pos h]), rfl⟩
  · rw [rsizeF, if_neg h]
    by_cases h0 : n < 0
    · go_enter Tryd.func18, Tryd.ntmps18
      go_wp2
      go_ret
      exact ⟨rfl, rfl⟩
    · have h1 : 4096 < n := by omega
      go_enter Tryd.func18, Tryd.ntmps18
      go_wp2
      go_ret
      exact ⟨rfl, rfl⟩

set_option maxHeartbeats 1000000 in
theorem xWrite_any (k s : Int) (A : Option Addr) (n c : Nat) (l : List UInt8) (w : World) (h : Sl w A n c (l.map v8)) :
    Calls Tryd.prog 11 #[.agg #[.int .i64 k, .int .i64 s, .slice A n c]] w (BytesErr w (wrF ⟨k, s, l⟩) 50) := by
  have HN : Hid (l.length = n) := h.len8
  have hcap := h.cap
  have hbig := h.big
  obtain ⟨i0, hi, hz0, hz1, hz2⟩ := info_parts i5
  have bb := (Below.refl w.heap.size w).alloc (Nat.le_refl _) (.cells #[.int .i64 k, .int .i64 s, .slice A n c] 25)
  have V := Blk.new w #[.int .i64 k, .int .i64 s, .slice A n c] 25
  cases hk : rchk k s n
  · rw [wr_no HN.out hk]
    have he := rchkE_no hk
    go_enter Tryd.func11, Tryd.ntmps11
    go_wp2_with fail
    refine (xCheck_any k s A n c _).mono ?_
    rintro e w1 ⟨rfl, b1⟩
    replace bb := bb.trans (b1.mono bb.size)
    go_wp2
    go_ret2
    exact ⟨none, 0, 0, rfl, Sl.nil _, Nw.nil _ _ _, bb⟩
  · rw [wr_yes HN.out hk]
    have he := rchkE_yes hk
    have ha := rchk_all hk
    have c1 : k % 18446744073709551616 = k := by omega
    have c2 : (n : Int) % 18446744073709551616 = n := by omega
    have c3 : s % 18446744073709551616 = s := by omega
    replace h := h.alloc (.cells #[.int .i64 k, .int .i64 s, .slice A n c] 25)
    go_enter Tryd.func11, Tryd.ntmps11
    go_wp2_with fail
    refine (xCheck_any k s A n c _).mono ?_
    rintro e w1 ⟨rfl, b1⟩
    replace V := V.under b1
    replace h := h.below b1
    replace bb := bb.trans (b1.mono bb.size)
    clear b1
    obtain ⟨q0, q1, q2, r0, r1, r2⟩ := V.three
    go_wp2_with fail
    clear q0 q1 q2 r0 r1 r2
    refine (BytesErr.ok (refPack_any ⟨#[119, 104, 104, 113]⟩ _ 4 4 [1196184151, UInt64.ofNat k.toNat, UInt64.ofNat n, UInt64.ofNat s.toNat] _ (by exact sl_head w1 hk) (by decide)) (pack_head hk)).mono ?_
    rintro e w2 ⟨A2, n2, c2, rfl, s2, f2, b2⟩
    replace b2 := alloc_below b2
    obtain rfl : n2 = 16 := by have := s2.len8; rw [headF_length] at this; exact this.symm
    replace V := V.under b2
    replace h := h.below b2
    replace f2 := f2.mono (w := w) (Nat.le_trans bb.size (by simp))
    replace bb := bb.trans (b2.mono bb.size)
    clear b2 s2
    obtain ⟨q0, q1, q2, r0, r1, r2⟩ := V.three
    have HO := Own.start f2 bb.size
    go_wp2_with (at_builtin; refine wpList_app rfl (.tmp 24) (.tmp 26) 23 rfl rfl HO i0 (.int .u8 0) 1 Tryd.underlying23 hi hz0 hz1 hz2 rfl _ _ _ _ rfl h (oneCell8 _) ?_ ?_ ?_)
    · omega
    · omega
    intro A3 c3' w3 hw3
    rw [← List.map_append] at hw3
    have hb3 := own_below f2 hw3 bb
    have s3 := hw3.to_sl
    go_wp2_with fail
    refine (refSeal_any _ _ _ _ w3 s3 (by omega)).mono ?_
    rintro e w4 ⟨A4, n4, c4, rfl, s4, f4, b4⟩
    go_wp2
    go_ret2
    exact ⟨_, _, _, rfl, s4, f4.mono hb3.size, hb3.trans (b4.mono hb3.size)⟩

theorem own_far7 {base : Nat} {e : TypeId} {w : World} {A : Option Addr} {n c : Nat} {xs : List Value} (h : w.ownsRow base e 1 (.slice A n c) n xs) {a : Addr} (ha : ∀ ad, A = some ad → ad.block ≠ a.block) (u : Value) : (w.setCell a u).ownsRow base e 1 (.slice A n c) n xs := by
  refine World.ownsRow.kept h (grown_set w a u) ?_
  cases A with
  | none => exact .inl rfl
  | some ad => exact .inr (fun hh => ha ad rfl (Option.some.inj hh))
theorem bytes_beq7 (a b : List UInt8) : (ByteArray.mk a.toArray == ByteArray.mk b.toArray) = (a == b) := by
  show (a.toArray == b.toArray) = _
  simp
theorem cand_sl (b : List UInt8) (z : Nat) (hz : rN b + 20 = z) : (b.take (z - 4)).drop 16 = (cand b).l := by
  show _ = (b.drop 16).take (rN b)
  rw [List.drop_take, show z - 4 - 16 = rN b by omega]

set_option maxRecDepth 20000 in
set_option maxHeartbeats 4000000 in
theorem xRead_any (A : Option Addr) (n c : Nat) (b : List UInt8) (w : World) (h : Sl w A n c (b.map v8)) (hn : n ≤ 10000000000000) :
    Calls Tryd.prog 13 #[.slice A n c] w (RecErr w (rdF b)) := by
  have HN : Hid (b.length = n) := h.len8
  have hcap := h.cap
  have hbig := h.big
  obtain ⟨i0, hi, hz0, hz1, hz2⟩ := info_parts i5
  have bb := (Below.refl w.heap.size w).alloc (Nat.le_refl _) (.cells #[.int .i64 0, .int .i64 0, .slice none 0 0] 25)
  have V := Blk.new w #[.int .i64 0, .int .i64 0, .slice none 0 0] 25
  by_cases h20 : (n : Int) < 20
  · have hR : Hid (rdF b = none) := rd_short20 (by rw [HN.out]; omega)
    go_enter Tryd.func13, Tryd.ntmps13
    go_wp2
    try simp only [Exit.inBlock, Exit.then]
    exact ret_blk3 rfl rfl V Tryd.underlying25 (by kernel_rfl) rfl rfl (RecErr.mkNo hR.out ⟨rfl, bb⟩)
  replace h := h.alloc (.cells #[.int .i64 0, .int .i64 0, .slice none 0 0] 25)
  have HU := h.upto (m := 16) (by omega)
  rw [← List.map_take] at HU
  have HD : Hid (unpackF [119, 104, 104, 113] (b.take 16) = some [UInt64.ofNat (rM b), UInt64.ofNat (rK b), UInt64.ofNat (rN b), UInt64.ofNat (rS b)]) := unpack_head (by rw [HN.out]; omega)
  go_enter Tryd.func13, Tryd.ntmps13
  go_wp2_with fail
  refine (NumsErr.ok (refUnpack_any ⟨#[119, 104, 104, 113]⟩ A 16 c (b.take 16) _ HU (by decide) (by omega)) HD.out).mono ?_
  rintro e w2 ⟨A2, n2, c2, rfl, s2, f2, b2⟩
  obtain ⟨g, rfl, rfl, hc4, hcb, hg0, hg1, g0, g1, g2, g3⟩ := nums4 f2
  rw [nat64 (Nat.lt_of_lt_of_le (rK_lt b) (by decide))] at g1
  rw [nat64 (Nat.lt_of_lt_of_le (rN_lt b) (by decide))] at g2
  rw [nat64 (rS_lt b)] at g3
  clear s2 f2 HU HD g0
  replace V := V.under b2
  replace h := h.below b2
  replace bb := bb.trans (b2.mono bb.size)
  clear b2 hg0
  have lK := rK_lt b
  have lN := rN_lt b
  have lS := rS_lt b
  obtain ⟨Kd, HK⟩ : ∃ M, Hid (rK b = M) := ⟨_, rfl⟩
  obtain ⟨Nb, HB⟩ : ∃ M, Hid (rN b = M) := ⟨_, rfl⟩
  obtain ⟨q, HQ⟩ : ∃ M : Int, Hid ((rS b : Int) = M) := ⟨_, rfl⟩
  have lS2 : Hid (0 ≤ q ∧ q < 18446744073709551616) := by have := HQ.out; show _ ∧ _; omega
  clear lS
  rw [HK.out] at g1 lK
  rw [HB.out] at g2 lN
  rw [HQ.out] at g3
  have w1 : wrap64 (Nb : Int) = Nb := by unfold wrap64; omega
  go_wp2_with fail
  refine (named (xSize_any (Nb : Int) w2)).mono ?_
  rintro e w3 ⟨rfl, b3⟩
  replace V := V.under b3
  replace h := h.below b3
  replace bb := bb.trans (b3.mono bb.size)
  replace g1 := (b3.cell hg1).trans g1
  replace g3 := (b3.cell hg1).trans g3
  replace hg1 := Nat.lt_of_lt_of_le hg1 b3.size
  clear b3 g2 w1
  by_cases hb : 4096 < Nb
  · have hR : Hid (rdF b = none) := rd_big (by rw [HB.out]; exact hb)
    have e3 : rsizeF (Nb : Int) = 0 := by unfold rsizeF; rw [if_neg (by omega)]
    obtain ⟨q0, q1, q2, r0, r1, r2⟩ := V.three
    go_wp2
    try simp only [Exit.inBlock, Exit.then]
    exact ret_blk3 rfl rfl (((V.set 0 _).set 1 _).set 2 _) Tryd.underlying25 (by kernel_rfl) rfl rfl (RecErr.mkNo hR.out ⟨rfl, ((bb.setCell (p := ⟨w.heap.size, 0, none⟩) (Nat.le_refl _) _).setCell (p := ⟨w.heap.size, 1, none⟩) (Nat.le_refl _) _).setCell (p := ⟨w.heap.size, 2, none⟩) (Nat.le_refl _) _⟩)
  obtain ⟨z, hz⟩ : ∃ z, Hid (z = Nb + 20) := ⟨_, rfl⟩
  have hy0 : 20 ≤ z := by have := hz.out; omega
  have hy1 : ((z : Int) == 0) = false := by simp; omega
  have hy2 : ¬ z = 0 := by omega
  have e3 : rsizeF (Nb : Int) = (z : Int) := by unfold rsizeF; rw [if_pos (by omega)]; have := hz.out; omega
  by_cases hl : (n : Int) < (z : Int)
  · have hR : Hid (rdF b = none) := rd_short (by rw [HB.out, HN.out]; have := hz.out; omega)
    obtain ⟨q0, q1, q2, r0, r1, r2⟩ := V.three
    go_wp2
    try simp only [Exit.inBlock, Exit.then]
    exact ret_blk3 rfl rfl (((V.set 0 _).set 1 _).set 2 _) Tryd.underlying25 (by kernel_rfl) rfl rfl (RecErr.mkNo hR.out ⟨rfl, ((bb.setCell (p := ⟨w.heap.size, 0, none⟩) (Nat.le_refl _) _).setCell (p := ⟨w.heap.size, 1, none⟩) (Nat.le_refl _) _).setCell (p := ⟨w.heap.size, 2, none⟩) (Nat.le_refl _) _⟩)
  have hl2 : ¬ n < z := by omega
  have HL : Hid (rN b + 20 ≤ b.length) := by show rN b + 20 ≤ b.length; rw [HB.out, HN.out]; have := hz.out; omega
  have HZ : Hid (rN b + 20 = z) := by show rN b + 20 = z; rw [HB.out, hz.out]
  by_cases hq : (4611686018427387904 : Int) ≤ q
  · have hR : Hid (rdF b = none) := rd_bad HL.out (by
      rw [HQ.out]
      cases hc : rchk (rK b) q (rN b)
      · rfl
      · have := rchk_all hc
        omega)
    obtain ⟨q0, q1, q2, r0, r1, r2⟩ := V.three
    go_wp2
    try simp only [Exit.inBlock, Exit.then]
    exact ret_blk3 rfl rfl (((V.set 0 _).set 1 _).set 2 _) Tryd.underlying25 (by kernel_rfl) rfl rfl (RecErr.mkNo hR.out ⟨rfl, ((bb.setCell (p := ⟨w.heap.size, 0, none⟩) (Nat.le_refl _) _).setCell (p := ⟨w.heap.size, 1, none⟩) (Nat.le_refl _) _).setCell (p := ⟨w.heap.size, 2, none⟩) (Nat.le_refl _) _⟩)
  have lS3 := lS2.out
  have HU := h.cut (k := 16) (m := z - 4) (by omega) (by omega)
  rw [← List.map_take, ← List.map_drop, cand_sl b z HZ.out] at HU
  have hNl : z - 4 - 16 = Nb := by have := hz.out; omega
  rw [hNl] at HU
  have hcut := fun W => run_cut2 (P := Tryd.prog) 23 5 un22 el22 sz5 A n c .i64 .i64 16 ((z : Int) - 4) 16 (z - 4) rfl (by omega) (by omega) (by omega) W
  rw [hNl] at hcut
  have hw4 : IntKind.i64.wrap ((z : Int) - 4) = (z : Int) - 4 := by rw [IntWalk.i64_left]; unfold wrap64; omega
  have hw5 : wrap64 ((z : Int) - 4) = (z : Int) - 4 := by unfold wrap64; omega
  have hk2 : IntKind.i64.wrap (Kd : Int) = (Kd : Int) := by rw [IntWalk.i64_left]; unfold wrap64; omega
  have hq3 : IntKind.i64.wrap q = q := by rw [IntWalk.i64_left]; unfold wrap64; omega
  have hq4 : wrap64 q = q := by unfold wrap64; omega
  clear lS3
  generalize cutA A c 16 = Ac at *
  generalize c - 16 = cc at *
  have HCl := cand_len HL.out
  rw [HB.out] at HCl
  generalize hcl : (cand b).l = cl at *
  replace hcl := Lib.hid hcl
  replace HCl := Lib.hid HCl
  replace hNl := Lib.hid hNl
  go_wp2_with fail
  have Vr := V
  have bb0 := bb
  clear V
  refine region_join (α := Nat → Option Addr → Nat → Value → Act) (R := fun T a w' => ∃ kv A5 c5 uu, a = T kv A5 c5 uu ∧ Blk w' kv #[.int .i64 (Kd : Int), .int .i64 q, .slice A5 Nb c5] 25 ∧ w'.ownsRow w3.heap.size 5 1 (.slice A5 Nb c5) Nb (cl.map v8) ∧ (∀ ad, A5 = some ad → ad.block ≠ kv) ∧ w3.heap.size ≤ kv ∧ Below w3.heap.size w3 w') ?TX ?bodyX ?restX
  case bodyX =>
    refine wp_region_held_drew (S := fun w' => Below w3.heap.size w3 w') (by kernel_rfl) (Below.refl _ _).drew (fun hHeld => ?_)
    have b := hHeld
    generalize w3.drew = wd at *
    try simp only [Act.put, List.setIfInBounds_toArray, List.set_cons_zero, List.set_cons_succ]
    refine wpAnyH_take (i := 0) (v := ?_) (by simp only [List.getElem?_toArray, List.getElem?_cons_zero]; rfl) (by kernel_rfl) (by kernel_rfl) (by kernel_rfl) (by intro _ _ _ h; exact nomatch h.1) (Or.inl ⟨by rfl, ?_⟩) hHeld ?_
    rotate_left 1
    · intro wq hSw
      try dsimp only at hSw
      go_simp
      try (with_reducible rfl)
    try simp only [Act.put, List.setIfInBounds_toArray, List.set_cons_zero, List.set_cons_succ]
    refine wpAnyH_take (i := 1) (v := ?_) (by simp only [List.getElem?_toArray, List.getElem?_cons_succ, List.getElem?_cons_zero]; rfl) (by kernel_rfl) (by kernel_rfl) (by kernel_rfl) (by intro _ _ _ h; exact nomatch h.1) (Or.inl ⟨by rfl, ?_⟩) hHeld ?_
    rotate_left 1
    · intro wq hSw
      try dsimp only at hSw
      go_simp
      try (with_reducible rfl)
    try simp only [Act.put, List.setIfInBounds_toArray, List.set_cons_zero, List.set_cons_succ]
    refine wpAnyH_take (i := 2) (v := ?_) (by simp only [List.getElem?_toArray, List.getElem?_cons_succ, List.getElem?_cons_zero]; rfl) (by kernel_rfl) (by kernel_rfl) (by kernel_rfl) (by intro _ _ _ h; exact nomatch h.1) (Or.inl ⟨by rfl, ?_⟩) hHeld ?_
    rotate_left 1
    · intro wq hSw
      try dsimp only at hSw
      have x1 := (hSw.cell (p := ⟨g, 1, none⟩) hg1).trans g1
      go_simp
      try (with_reducible rfl)
    try simp only [Act.put, List.setIfInBounds_toArray, List.set_cons_zero, List.set_cons_succ]
    refine wpAnyH_take (i := 3) (v := ?_) (by simp only [List.getElem?_toArray, List.getElem?_cons_succ, List.getElem?_cons_zero]; rfl) (by kernel_rfl) (by kernel_rfl) (by kernel_rfl) (by intro _ _ _ h; exact nomatch h.1) (Or.inl ⟨by rfl, ?_⟩) hHeld ?_
    rotate_left 1
    · intro wq hSw
      try dsimp only at hSw
      go_simp
      try (with_reducible rfl)
    try simp only [Act.put, List.setIfInBounds_toArray, List.set_cons_zero, List.set_cons_succ]
    refine wpAnyH_take (i := 4) (v := ?_) (by simp only [List.getElem?_toArray, List.getElem?_cons_succ, List.getElem?_cons_zero]; rfl) (by kernel_rfl) (by kernel_rfl) (by kernel_rfl) (by intro _ _ _ h; exact nomatch h.1) (Or.inl ⟨by rfl, ?_⟩) hHeld ?_
    rotate_left 1
    · intro wq hSw
      try dsimp only at hSw
      go_simp
      try (with_reducible rfl)
    try simp only [Act.put, List.setIfInBounds_toArray, List.set_cons_zero, List.set_cons_succ]
    refine wpAnyH_take (i := 5) (v := ?_) (by simp only [List.getElem?_toArray, List.getElem?_cons_succ, List.getElem?_cons_zero]; rfl) (by kernel_rfl) (by kernel_rfl) (by kernel_rfl) (by intro _ _ _ h; exact nomatch h.1) (Or.inl ⟨by rfl, ?_⟩) hHeld ?_
    rotate_left 1
    · intro wq hSw
      try dsimp only at hSw
      go_simp
      try (with_reducible rfl)
    try simp only [Act.put, List.setIfInBounds_toArray, List.set_cons_zero, List.set_cons_succ]
    refine wpAnyH_take (i := 6) (v := ?_) (by simp only [List.getElem?_toArray, List.getElem?_cons_succ, List.getElem?_cons_zero]; rfl) (by kernel_rfl) (by kernel_rfl) (by kernel_rfl) (by intro _ _ _ h; exact nomatch h.1) (Or.inl ⟨by rfl, ?_⟩) hHeld ?_
    rotate_left 1
    · intro wq hSw
      try dsimp only at hSw
      have x3 := (hSw.cell (p := ⟨g, 3, none⟩) hg1).trans g3
      go_simp
      try (with_reducible rfl)
    try simp only [Act.put, List.setIfInBounds_toArray, List.set_cons_zero, List.set_cons_succ]
    refine wpAnyH_take (i := 7) (v := ?_) (by simp only [List.getElem?_toArray, List.getElem?_cons_succ, List.getElem?_cons_zero]; rfl) (by kernel_rfl) (by kernel_rfl) (by kernel_rfl) (by intro _ _ _ h; exact nomatch h.1) (Or.inl ⟨by rfl, ?_⟩) hHeld ?_
    rotate_left 1
    · intro wq hSw
      try dsimp only at hSw
      go_simp
      try (with_reducible rfl)
    try simp only [Act.put, List.setIfInBounds_toArray, List.set_cons_zero, List.set_cons_succ]
    refine wpAnyH_take (i := 9) (v := ?_) (by simp only [List.getElem?_toArray, List.getElem?_cons_succ, List.getElem?_cons_zero]; rfl) (by kernel_rfl) (by kernel_rfl) (by kernel_rfl) (by intro _ _ _ h; exact nomatch h.1) (Or.inl ⟨by rfl, ?_⟩) hHeld ?_
    rotate_left 1
    · intro wq hSw
      try dsimp only at hSw
      go_simp
      try (with_reducible rfl)
    try simp only [Act.put, List.setIfInBounds_toArray, List.set_cons_zero, List.set_cons_succ]
    refine wpAnyH_take (i := 10) (v := ?_) (by simp only [List.getElem?_toArray, List.getElem?_cons_succ, List.getElem?_cons_zero]; rfl) (by kernel_rfl) (by kernel_rfl) (by kernel_rfl) (by intro _ _ _ h; exact nomatch h.1) (Or.inl ⟨by rfl, ?_⟩) hHeld ?_
    rotate_left 1
    · intro wq hSw
      try dsimp only at hSw
      go_simp
      try (with_reducible rfl)
    try simp only [Act.put, List.setIfInBounds_toArray, List.set_cons_zero, List.set_cons_succ]
    refine wpAnyH_take (i := 11) (v := ?_) (by simp only [List.getElem?_toArray, List.getElem?_cons_succ, List.getElem?_cons_zero]; rfl) (by kernel_rfl) (by kernel_rfl) (by kernel_rfl) (by intro _ _ _ h; exact nomatch h.1) (Or.inl ⟨by rfl, ?_⟩) hHeld ?_
    rotate_left 1
    · intro wq hSw
      try dsimp only at hSw
      go_simp
      try (with_reducible rfl)
    try simp only [Act.put, List.setIfInBounds_toArray, List.set_cons_zero, List.set_cons_succ]
    refine wpAnyH_take (i := 12) (v := ?_) (by simp only [List.getElem?_toArray, List.getElem?_cons_succ, List.getElem?_cons_zero]; rfl) (by kernel_rfl) (by kernel_rfl) (by kernel_rfl) (by intro _ _ _ h; exact nomatch h.1) (Or.inl ⟨by rfl, ?_⟩) hHeld ?_
    rotate_left 1
    · intro wq hSw
      try dsimp only at hSw
      go_simp
      try (with_reducible rfl)
    try simp only [Act.put, List.setIfInBounds_toArray, List.set_cons_zero, List.set_cons_succ]
    refine wpAnyH_ready (rs := [8, 15]) (by kernel_rfl) (by simp) ?_
    refine AllReadyH.cons (by simp only [List.getElem?_toArray, List.getElem?_cons_succ, List.getElem?_cons_zero]; rfl) (fun K hK => ?_) (AllReadyH.cons (by simp only [List.getElem?_toArray, List.getElem?_cons_succ, List.getElem?_cons_zero]; rfl) (fun K hK => ?_) AllReadyH.nil)
    · skip
      go_simp
      have O := built_own wd #[] 5 [] 0 rfl rfl (by decide) b.size
      replace b := b.alloc b.size (.cells #[] 5)
      generalize hu49 : Value.slice (some ⟨wd.heap.size, 0, none⟩) 0 0 = u49 at *
      generalize wd.alloc (.cells #[] 5) = w_8_1 at *
      refine hK.out _ _ b (fun hHeld => ?_)
      clear hK K
      try simp only [Act.put, List.setIfInBounds_toArray, List.set_cons_zero, List.set_cons_succ]
      refine wpAnyH_ready (rs := [13, 15]) (by kernel_rfl) (by simp) ?_
      refine AllReadyH.cons (by simp only [List.getElem?_toArray, List.getElem?_cons_succ, List.getElem?_cons_zero]; rfl) (fun K hK => ?_) (AllReadyH.cons (by simp only [List.getElem?_toArray, List.getElem?_cons_succ, List.getElem?_cons_zero]; rfl) (fun K hK => ?_) AllReadyH.nil)
      · skip
        obtain ⟨Ar, cr, w_13_2, hr, hO⟩ := run_app (P := Tryd.prog) (Own.start O b.size) 23 23 i0 (.int .u8 0) 1 Tryd.underlying23 hi hz0 hz1 hz2 rfl _ _ _ _ (HU.below b) (oneCell8 _) (by omega) (by omega)
        refine (if_pos (by rfl)).mpr (wp_app (Operand.tmp 49) (Operand.tmp 53) 23 rfl rfl rfl hr ?_)
        try simp only [Act.put, List.setIfInBounds_toArray, List.set_cons_zero, List.set_cons_succ]
        replace b := own_below O hO b
        replace O := hO.own
        try simp only [Nat.zero_add, List.nil_append] at O ⊢
        have N := O
        clear hr hO O
        refine hK.out _ _ b (fun hHeld => ?_)
        clear hK K
        try simp only [Act.put, List.setIfInBounds_toArray, List.set_cons_zero, List.set_cons_succ]
        refine wpAnyH_take (i := 14) (v := ?_) (by simp only [List.getElem?_toArray, List.getElem?_cons_succ, List.getElem?_cons_zero]; rfl) (by kernel_rfl) (by kernel_rfl) (by kernel_rfl) (by intro _ _ _ h; exact nomatch h.1) (Or.inl ⟨by rfl, ?_⟩) hHeld ?_
        rotate_left 1
        · intro wq hSw
          try dsimp only at hSw
          go_simp
          try (with_reducible rfl)
        try simp only [Act.put, List.setIfInBounds_toArray, List.set_cons_zero, List.set_cons_succ]
        refine wpAnyH_ready (rs := [15]) (by kernel_rfl) (by simp) ?_
        refine AllReadyH.cons (by simp only [List.getElem?_toArray, List.getElem?_cons_succ, List.getElem?_cons_zero]; rfl) (fun K hK => ?_) AllReadyH.nil
        obtain ⟨kv, hkv⟩ : ∃ k, w_13_2.heap.size = k := ⟨_, rfl⟩
        go_simp
        try simp only [hkv]
        have V := Blk.new w_13_2 #[.int .i64 0, .int .i64 0, .slice none 0 0] 25
        rw [hkv] at V
        have hcv : w3.heap.size ≤ kv := by rw [← hkv]; exact b.size
        have hneA := ownA_ne N (Nat.le_of_eq hkv)
        replace N := World.ownsRow.alloc N (.cells #[.int .i64 0, .int .i64 0, .slice none 0 0] 25)
        skip
        replace b := b.alloc b.size (.cells #[.int .i64 0, .int .i64 0, .slice none 0 0] 25)
        generalize w_13_2.alloc (.cells #[.int .i64 0, .int .i64 0, .slice none 0 0] 25) = w_15_3 at *
        refine hK.out _ _ b (fun hHeld => ?_)
        clear hK K
        try simp only [Act.put, List.setIfInBounds_toArray, List.set_cons_zero, List.set_cons_succ]
        refine wpAnyH_ready (rs := [16]) (by kernel_rfl) (by simp) ?_
        refine AllReadyH.cons (by simp only [List.getElem?_toArray, List.getElem?_cons_succ, List.getElem?_cons_zero]; rfl) (fun K hK => ?_) AllReadyH.nil
        obtain ⟨z0, z1, z2, i0', i1', i2'⟩ := V.three
        go_simp
        have V2 := (((V.set 0 (.int .i64 (Kd : Int))).set 1 (.int .i64 q)).set 2 (.slice Ar Nb cr))
        simp only [List.setIfInBounds_toArray, List.set_cons_zero, List.set_cons_succ] at V2
        have N2 := (own_far7 (own_far7 (own_far7 N (a := ⟨kv, 0, none⟩) hneA (.int .i64 (Kd : Int))) (a := ⟨kv, 1, none⟩) hneA (.int .i64 q)) (a := ⟨kv, 2, none⟩) hneA (.slice Ar Nb cr))
        have b2 := (((b.setCell (p := ⟨kv, 0, none⟩) hcv (.int .i64 (Kd : Int))).setCell (p := ⟨kv, 1, none⟩) hcv (.int .i64 q)).setCell (p := ⟨kv, 2, none⟩) hcv (.slice Ar Nb cr))
        clear z0 z1 z2 i0' i1' i2'
        clear V N b
        generalize (((w_15_3.setCell ⟨kv, 0, none⟩ (.int .i64 (Kd : Int))).setCell ⟨kv, 1, none⟩ (.int .i64 q)).setCell ⟨kv, 2, none⟩ (.slice Ar Nb cr)) = w_16_4 at *
        have V := V2
        have N := N2
        have b := b2
        clear V2 N2 b2
        refine hK.out _ _ b (fun hHeld => ?_)
        clear hK K
        try simp only [Act.put, List.setIfInBounds_toArray, List.set_cons_zero, List.set_cons_succ]
        refine wpAnyH_done (by kernel_rfl) ?_ _
        refine ⟨rfl, kv, Ar, cr, u49, ?_, V, N, hneA, hcv, b⟩
        with_reducible rfl
      · skip
        obtain ⟨kv, hkv⟩ : ∃ k, w_8_1.heap.size = k := ⟨_, rfl⟩
        go_simp
        try simp only [hkv]
        have V := Blk.new w_8_1 #[.int .i64 0, .int .i64 0, .slice none 0 0] 25
        rw [hkv] at V
        have hcv : w3.heap.size ≤ kv := by rw [← hkv]; exact b.size
        have hneU := own_ne O (Nat.le_of_eq hkv)
        replace O := World.ownsRow.alloc O (.cells #[.int .i64 0, .int .i64 0, .slice none 0 0] 25)
        skip
        replace b := b.alloc b.size (.cells #[.int .i64 0, .int .i64 0, .slice none 0 0] 25)
        generalize w_8_1.alloc (.cells #[.int .i64 0, .int .i64 0, .slice none 0 0] 25) = w_15_2 at *
        refine hK.out _ _ b (fun hHeld => ?_)
        clear hK K
        try simp only [Act.put, List.setIfInBounds_toArray, List.set_cons_zero, List.set_cons_succ]
        refine wpAnyH_ready (rs := [13]) (by kernel_rfl) (by simp) ?_
        refine AllReadyH.cons (by simp only [List.getElem?_toArray, List.getElem?_cons_succ, List.getElem?_cons_zero]; rfl) (fun K hK => ?_) AllReadyH.nil
        obtain ⟨Ar, cr, w_13_3, hr, hO⟩ := run_app (P := Tryd.prog) (Own.start O b.size) 23 23 i0 (.int .u8 0) 1 Tryd.underlying23 hi hz0 hz1 hz2 rfl _ _ _ _ (HU.below b) (oneCell8 _) (by omega) (by omega)
        refine (if_pos (by rfl)).mpr (wp_app (Operand.tmp 49) (Operand.tmp 53) 23 rfl rfl rfl hr ?_)
        try simp only [Act.put, List.setIfInBounds_toArray, List.set_cons_zero, List.set_cons_succ]
        have hneU2 := own_ne_step hO hneU V.lt
        replace V := V.own hO hneU
        replace hneU := hneU2
        clear hneU2
        replace b := own_below O hO b
        replace O := hO.own
        try simp only [Nat.zero_add, List.nil_append] at O ⊢
        have N := O
        have hneA : ∀ ad, Ar = some ad → ad.block ≠ kv := fun ad hA => hneU ad.block (by rw [hA]; rfl)
        clear hr hO O
        refine hK.out _ _ b (fun hHeld => ?_)
        clear hK K
        try simp only [Act.put, List.setIfInBounds_toArray, List.set_cons_zero, List.set_cons_succ]
        refine wpAnyH_take (i := 14) (v := ?_) (by simp only [List.getElem?_toArray, List.getElem?_cons_succ, List.getElem?_cons_zero]; rfl) (by kernel_rfl) (by kernel_rfl) (by kernel_rfl) (by intro _ _ _ h; exact nomatch h.1) (Or.inl ⟨by rfl, ?_⟩) hHeld ?_
        rotate_left 1
        · intro wq hSw
          try dsimp only at hSw
          go_simp
          try (with_reducible rfl)
        try simp only [Act.put, List.setIfInBounds_toArray, List.set_cons_zero, List.set_cons_succ]
        refine wpAnyH_ready (rs := [16]) (by kernel_rfl) (by simp) ?_
        refine AllReadyH.cons (by simp only [List.getElem?_toArray, List.getElem?_cons_succ, List.getElem?_cons_zero]; rfl) (fun K hK => ?_) AllReadyH.nil
        obtain ⟨z0, z1, z2, i0', i1', i2'⟩ := V.three
        go_simp
        have V2 := (((V.set 0 (.int .i64 (Kd : Int))).set 1 (.int .i64 q)).set 2 (.slice Ar Nb cr))
        simp only [List.setIfInBounds_toArray, List.set_cons_zero, List.set_cons_succ] at V2
        have N2 := (own_far7 (own_far7 (own_far7 N (a := ⟨kv, 0, none⟩) hneA (.int .i64 (Kd : Int))) (a := ⟨kv, 1, none⟩) hneA (.int .i64 q)) (a := ⟨kv, 2, none⟩) hneA (.slice Ar Nb cr))
        have b2 := (((b.setCell (p := ⟨kv, 0, none⟩) hcv (.int .i64 (Kd : Int))).setCell (p := ⟨kv, 1, none⟩) hcv (.int .i64 q)).setCell (p := ⟨kv, 2, none⟩) hcv (.slice Ar Nb cr))
        clear z0 z1 z2 i0' i1' i2'
        clear V N b
        generalize (((w_13_3.setCell ⟨kv, 0, none⟩ (.int .i64 (Kd : Int))).setCell ⟨kv, 1, none⟩ (.int .i64 q)).setCell ⟨kv, 2, none⟩ (.slice Ar Nb cr)) = w_16_4 at *
        have V := V2
        have N := N2
        have b := b2
        clear V2 N2 b2
        refine hK.out _ _ b (fun hHeld => ?_)
        clear hK K
        try simp only [Act.put, List.setIfInBounds_toArray, List.set_cons_zero, List.set_cons_succ]
        refine wpAnyH_done (by kernel_rfl) ?_ _
        refine ⟨rfl, kv, Ar, cr, u49, ?_, V, N, hneA, hcv, b⟩
        with_reducible rfl
    · skip
      obtain ⟨kv, hkv⟩ : ∃ k, wd.heap.size = k := ⟨_, rfl⟩
      go_simp
      try simp only [hkv]
      have V := Blk.new wd #[.int .i64 0, .int .i64 0, .slice none 0 0] 25
      rw [hkv] at V
      have hcv : w3.heap.size ≤ kv := by rw [← hkv]; exact b.size
      skip
      replace b := b.alloc b.size (.cells #[.int .i64 0, .int .i64 0, .slice none 0 0] 25)
      generalize wd.alloc (.cells #[.int .i64 0, .int .i64 0, .slice none 0 0] 25) = w_15_1 at *
      refine hK.out _ _ b (fun hHeld => ?_)
      clear hK K
      try simp only [Act.put, List.setIfInBounds_toArray, List.set_cons_zero, List.set_cons_succ]
      refine wpAnyH_ready (rs := [8]) (by kernel_rfl) (by simp) ?_
      refine AllReadyH.cons (by simp only [List.getElem?_toArray, List.getElem?_cons_succ, List.getElem?_cons_zero]; rfl) (fun K hK => ?_) AllReadyH.nil
      go_simp
      have O := built_own w_15_1 #[] 5 [] 0 rfl rfl (by decide) b.size
      have hneU := slice_ne 0 V.lt
      replace V := V.alloc (.cells #[] 5)
      replace b := b.alloc b.size (.cells #[] 5)
      generalize hu49 : Value.slice (some ⟨w_15_1.heap.size, 0, none⟩) 0 0 = u49 at *
      generalize w_15_1.alloc (.cells #[] 5) = w_8_2 at *
      refine hK.out _ _ b (fun hHeld => ?_)
      clear hK K
      try simp only [Act.put, List.setIfInBounds_toArray, List.set_cons_zero, List.set_cons_succ]
      refine wpAnyH_ready (rs := [13]) (by kernel_rfl) (by simp) ?_
      refine AllReadyH.cons (by simp only [List.getElem?_toArray, List.getElem?_cons_succ, List.getElem?_cons_zero]; rfl) (fun K hK => ?_) AllReadyH.nil
      obtain ⟨Ar, cr, w_13_3, hr, hO⟩ := run_app (P := Tryd.prog) (Own.start O b.size) 23 23 i0 (.int .u8 0) 1 Tryd.underlying23 hi hz0 hz1 hz2 rfl _ _ _ _ (HU.below b) (oneCell8 _) (by omega) (by omega)
      refine (if_pos (by rfl)).mpr (wp_app (Operand.tmp 49) (Operand.tmp 53) 23 rfl rfl rfl hr ?_)
      try simp only [Act.put, List.setIfInBounds_toArray, List.set_cons_zero, List.set_cons_succ]
      have hneU2 := own_ne_step hO hneU V.lt
      replace V := V.own hO hneU
      replace hneU := hneU2
      clear hneU2
      replace b := own_below O hO b
      replace O := hO.own
      try simp only [Nat.zero_add, List.nil_append] at O ⊢
      have N := O
      have hneA : ∀ ad, Ar = some ad → ad.block ≠ kv := fun ad hA => hneU ad.block (by rw [hA]; rfl)
      clear hr hO O
      refine hK.out _ _ b (fun hHeld => ?_)
      clear hK K
      try simp only [Act.put, List.setIfInBounds_toArray, List.set_cons_zero, List.set_cons_succ]
      refine wpAnyH_take (i := 14) (v := ?_) (by simp only [List.getElem?_toArray, List.getElem?_cons_succ, List.getElem?_cons_zero]; rfl) (by kernel_rfl) (by kernel_rfl) (by kernel_rfl) (by intro _ _ _ h; exact nomatch h.1) (Or.inl ⟨by rfl, ?_⟩) hHeld ?_
      rotate_left 1
      · intro wq hSw
        try dsimp only at hSw
        go_simp
        try (with_reducible rfl)
      try simp only [Act.put, List.setIfInBounds_toArray, List.set_cons_zero, List.set_cons_succ]
      refine wpAnyH_ready (rs := [16]) (by kernel_rfl) (by simp) ?_
      refine AllReadyH.cons (by simp only [List.getElem?_toArray, List.getElem?_cons_succ, List.getElem?_cons_zero]; rfl) (fun K hK => ?_) AllReadyH.nil
      obtain ⟨z0, z1, z2, i0', i1', i2'⟩ := V.three
      go_simp
      have V2 := (((V.set 0 (.int .i64 (Kd : Int))).set 1 (.int .i64 q)).set 2 (.slice Ar Nb cr))
      simp only [List.setIfInBounds_toArray, List.set_cons_zero, List.set_cons_succ] at V2
      have N2 := (own_far7 (own_far7 (own_far7 N (a := ⟨kv, 0, none⟩) hneA (.int .i64 (Kd : Int))) (a := ⟨kv, 1, none⟩) hneA (.int .i64 q)) (a := ⟨kv, 2, none⟩) hneA (.slice Ar Nb cr))
      have b2 := (((b.setCell (p := ⟨kv, 0, none⟩) hcv (.int .i64 (Kd : Int))).setCell (p := ⟨kv, 1, none⟩) hcv (.int .i64 q)).setCell (p := ⟨kv, 2, none⟩) hcv (.slice Ar Nb cr))
      clear z0 z1 z2 i0' i1' i2'
      clear V N b
      generalize (((w_13_3.setCell ⟨kv, 0, none⟩ (.int .i64 (Kd : Int))).setCell ⟨kv, 1, none⟩ (.int .i64 q)).setCell ⟨kv, 2, none⟩ (.slice Ar Nb cr)) = w_16_4 at *
      have V := V2
      have N := N2
      have b := b2
      clear V2 N2 b2
      refine hK.out _ _ b (fun hHeld => ?_)
      clear hK K
      try simp only [Act.put, List.setIfInBounds_toArray, List.set_cons_zero, List.set_cons_succ]
      refine wpAnyH_done (by kernel_rfl) ?_ _
      refine ⟨rfl, kv, Ar, cr, u49, ?_, V, N, hneA, hcv, b⟩
      with_reducible rfl
  rintro a w5 ⟨kv, A5, c5, uu, rfl, U, O5, hne5, hkv, b5⟩
  try dsimp only
  have V := Vr.under b5
  replace h := h.below b5
  have hfr5 : ∀ ad, A5 = some ad → w.heap.size < ad.block := fun ad e => by
    have := (World.ownsRow.lt O5 ad.block (by rw [e]; rfl)).1
    have := Vr.lt
    omega
  have bb := bb0.trans (b5.mono bb0.size)
  have s5 := Sl.of_own O5
  clear bb0 Vr O5 b5 g1 g3 hcut HU
  obtain ⟨u0, u1, u2, _⟩ := U.three
  go_wp2_with fail
  clear u0 u1 u2
  cases hr : rchk (Kd : Int) q Nb
  · have hR : Hid (rdF b = none) := rd_bad HL.out (by rw [HK.out, HQ.out, HB.out, hr])
    refine (BytesErr.no (xWrite_any (Kd : Int) q A5 Nb c5 cl w5 s5) (wr_no HCl.out hr)).mono ?_
    rintro e w6 ⟨A6, n6, c6, rfl, s6, f6, b6⟩
    replace V := V.under b6
    replace bb := bb.trans (b6.mono bb.size)
    go_wp2_with fail
    refine wp_region_held_drew (S := fun w' => Below w6.heap.size w6 w') (by kernel_rfl) (Below.refl _ _).drew (fun hHeld => ?_)
    try dsimp only at hHeld
    have bd : Below w6.heap.size w6 w6.drew := (Below.refl w6.heap.size w6).drew
    generalize w6.drew = wd at *
    try simp only [Act.put, List.setIfInBounds_toArray, List.set_cons_zero, List.set_cons_succ]
    refine wpAnyH_take (i := 0) (v := ?_) (by simp only [List.getElem?_toArray, List.getElem?_cons_zero]; rfl) (by kernel_rfl) (by kernel_rfl) (by kernel_rfl) (by intro _ _ _ h; exact h) (Or.inl ⟨by rfl, ?_⟩) hHeld ?_
    rotate_left 1
    · intro wq hSw
      try dsimp only at hSw
      go_simp
      try (with_reducible rfl)
    try simp only [Act.put, List.setIfInBounds_toArray, List.set_cons_zero, List.set_cons_succ]
    refine wpAnyH_take (i := 1) (v := ?_) (by simp only [List.getElem?_toArray, List.getElem?_cons_succ, List.getElem?_cons_zero]; rfl) (by kernel_rfl) (by kernel_rfl) (by kernel_rfl) (by intro _ _ _ h; exact h) (Or.inl ⟨by rfl, ?_⟩) hHeld ?_
    rotate_left 1
    · intro wq hSw
      try dsimp only at hSw
      go_simp
      try (with_reducible rfl)
    try simp only [Act.put, List.setIfInBounds_toArray, List.set_cons_zero, List.set_cons_succ]
    refine wpAnyH_take (i := 2) (v := ?_) (by simp only [List.getElem?_toArray, List.getElem?_cons_succ, List.getElem?_cons_zero]; rfl) (by kernel_rfl) (by kernel_rfl) (by kernel_rfl) (by intro _ _ _ h; exact h) (Or.inl ⟨by rfl, ?_⟩) hHeld ?_
    rotate_left 1
    · intro wq hSw
      try dsimp only at hSw
      go_simp
      try (with_reducible rfl)
    try simp only [Act.put, List.setIfInBounds_toArray, List.set_cons_zero, List.set_cons_succ]
    refine wpAnyH_take (i := 3) (v := undef) (by simp only [List.getElem?_toArray, List.getElem?_cons_succ, List.getElem?_cons_zero]; rfl) (by kernel_rfl) (by kernel_rfl) (by kernel_rfl) (by intro _ _ _ h; exact h) (Or.inr ⟨by rfl, rfl⟩) hHeld ?_
    try simp only [Act.put, List.setIfInBounds_toArray, List.set_cons_zero, List.set_cons_succ]
    refine wpAnyH_take (i := 4) (v := undef) (by simp only [List.getElem?_toArray, List.getElem?_cons_succ, List.getElem?_cons_zero]; rfl) (by kernel_rfl) (by kernel_rfl) (by kernel_rfl) (by intro _ _ _ h; exact h) (Or.inr ⟨by rfl, rfl⟩) hHeld ?_
    try simp only [Act.put, List.setIfInBounds_toArray, List.set_cons_zero, List.set_cons_succ]
    refine wpAnyH_take (i := 5) (v := undef) (by simp only [List.getElem?_toArray, List.getElem?_cons_succ, List.getElem?_cons_zero]; rfl) (by kernel_rfl) (by kernel_rfl) (by kernel_rfl) (by intro _ _ _ h; exact h) (Or.inr ⟨by rfl, rfl⟩) hHeld ?_
    try simp only [Act.put, List.setIfInBounds_toArray, List.set_cons_zero, List.set_cons_succ]
    refine wpAnyH_take (i := 6) (v := undef) (by simp only [List.getElem?_toArray, List.getElem?_cons_succ, List.getElem?_cons_zero]; rfl) (by kernel_rfl) (by kernel_rfl) (by kernel_rfl) (by intro _ _ _ h; exact h) (Or.inr ⟨by rfl, rfl⟩) hHeld ?_
    try simp only [Act.put, List.setIfInBounds_toArray, List.set_cons_zero, List.set_cons_succ]
    refine wpAnyH_take (i := 7) (v := undef) (by simp only [List.getElem?_toArray, List.getElem?_cons_succ, List.getElem?_cons_zero]; rfl) (by kernel_rfl) (by kernel_rfl) (by kernel_rfl) (by intro _ _ _ h; exact h) (Or.inr ⟨by rfl, rfl⟩) hHeld ?_
    try simp only [Act.put, List.setIfInBounds_toArray, List.set_cons_zero, List.set_cons_succ]
    refine wpAnyH_take (i := 8) (v := undef) (by simp only [List.getElem?_toArray, List.getElem?_cons_succ, List.getElem?_cons_zero]; rfl) (by kernel_rfl) (by kernel_rfl) (by kernel_rfl) (by intro _ _ _ h; exact h) (Or.inr ⟨by rfl, rfl⟩) hHeld ?_
    try simp only [Act.put, List.setIfInBounds_toArray, List.set_cons_zero, List.set_cons_succ]
    refine wpAnyH_take (i := 9) (v := undef) (by simp only [List.getElem?_toArray, List.getElem?_cons_succ, List.getElem?_cons_zero]; rfl) (by kernel_rfl) (by kernel_rfl) (by kernel_rfl) (by intro _ _ _ h; exact h) (Or.inr ⟨by rfl, rfl⟩) hHeld ?_
    try simp only [Act.put, List.setIfInBounds_toArray, List.set_cons_zero, List.set_cons_succ]
    refine wpAnyH_take (i := 10) (v := ?_) (by simp only [List.getElem?_toArray, List.getElem?_cons_succ, List.getElem?_cons_zero]; rfl) (by kernel_rfl) (by kernel_rfl) (by kernel_rfl) (by intro _ _ _ h; exact h) (Or.inl ⟨by rfl, ?_⟩) hHeld ?_
    rotate_left 1
    · intro wq hSw
      try dsimp only at hSw
      go_simp
      try (with_reducible rfl)
    try simp only [Act.put, List.setIfInBounds_toArray, List.set_cons_zero, List.set_cons_succ]
    refine wpAnyH_done (by kernel_rfl) ?_ _
    replace V := V.under bd
    replace bb := bb.trans (bd.mono bb.size)
    obtain ⟨q0, q1, q2, r0, r1, r2⟩ := V.three
    go_wp2
    try simp only [Exit.inBlock, Exit.then]
    exact ret_blk3 rfl rfl (((V.set 0 _).set 1 _).set 2 _) Tryd.underlying25 (by kernel_rfl) rfl rfl (RecErr.mkNo hR.out ⟨rfl, ((bb.setCell (p := ⟨w.heap.size, 0, none⟩) (Nat.le_refl _) _).setCell (p := ⟨w.heap.size, 1, none⟩) (Nat.le_refl _) _).setCell (p := ⟨w.heap.size, 2, none⟩) (Nat.le_refl _) _⟩)
  · have HY := wr_yes (l := cl) HCl.out hr
    have HRB : Hid (sealF (headF (Kd : Int).toNat Nb q.toNat ++ cl) = recB (cand b)) := by
      have e : cand b = ⟨(Kd : Int), q, cl⟩ := Rp.ext_of (congrArg Nat.cast HK.out) HQ.out hcl.out
      show _ = _
      rw [e]
      unfold recB
      rw [HCl.out]
    rw [HRB.out] at HY
    replace HY := Lib.hid HY
    have hlen : Hid ((recB (cand b)).length = z) := by show _ = _; rw [recB_length, hcl.out, HCl.out, hz.out]
    have HU := h.upto (m := z) (by omega)
    rw [← List.map_take] at HU
    generalize hX : recB (cand b) = X at *
    replace hX := Lib.hid hX
    refine (BytesErr.ok (xWrite_any (Kd : Int) q A5 Nb c5 cl w5 s5) HY.out).mono ?_
    rintro e w6 ⟨A6, n6, c6, rfl, s6, f6, b6⟩
    obtain rfl : n6 = z := by rw [← s6.len8]; exact hlen.out
    replace V := V.under b6
    replace U := U.under b6
    replace s5 := s5.below b6
    replace HU := HU.below b6
    replace bb := bb.trans (b6.mono bb.size)
    clear f6 b6
    go_wp2_with fail
    have hh : (n6 : Int) ≤ (c : Int) := by omega
    by_cases hx : X = b.take n6
    · have hR : Hid (rdF b = some (cand b, rN b + 20)) := rd_same HL.out (by rw [HK.out, HQ.out, HB.out, hr]) (by rw [hX.out, HZ.out]; exact hx)
      rw [← hx] at HU
      clear hx
      refine wp_region_held_drew (S := fun w' => Below w6.heap.size w6 w') (by kernel_rfl) (Below.refl _ _).drew (fun hHeld => ?_)
      try dsimp only at hHeld
      have bd : Below w6.heap.size w6 w6.drew := (Below.refl w6.heap.size w6).drew
      generalize w6.drew = wd at *
      try simp only [Act.put, List.setIfInBounds_toArray, List.set_cons_zero, List.set_cons_succ]
      refine wpAnyH_take (i := 0) (v := ?_) (by simp only [List.getElem?_toArray, List.getElem?_cons_zero]; rfl) (by kernel_rfl) (by kernel_rfl) (by kernel_rfl) (by intro _ _ _ h; exact h) (Or.inl ⟨by rfl, ?_⟩) hHeld ?_
      rotate_left 1
      · intro wq hSw
        try dsimp only at hSw
        go_simp
        try (with_reducible rfl)
      try simp only [Act.put, List.setIfInBounds_toArray, List.set_cons_zero, List.set_cons_succ]
      refine wpAnyH_take (i := 1) (v := ?_) (by simp only [List.getElem?_toArray, List.getElem?_cons_succ, List.getElem?_cons_zero]; rfl) (by kernel_rfl) (by kernel_rfl) (by kernel_rfl) (by intro _ _ _ h; exact h) (Or.inl ⟨by rfl, ?_⟩) hHeld ?_
      rotate_left 1
      · intro wq hSw
        try dsimp only at hSw
        go_simp
        try (with_reducible rfl)
      try simp only [Act.put, List.setIfInBounds_toArray, List.set_cons_zero, List.set_cons_succ]
      refine wpAnyH_take (i := 2) (v := ?_) (by simp only [List.getElem?_toArray, List.getElem?_cons_succ, List.getElem?_cons_zero]; rfl) (by kernel_rfl) (by kernel_rfl) (by kernel_rfl) (by intro _ _ _ h; exact h) (Or.inl ⟨by rfl, ?_⟩) hHeld ?_
      rotate_left 1
      · intro wq hSw
        try dsimp only at hSw
        go_simp
        try (with_reducible rfl)
      try simp only [Act.put, List.setIfInBounds_toArray, List.set_cons_zero, List.set_cons_succ]
      refine wpAnyH_take (i := 3) (v := ?_) (by simp only [List.getElem?_toArray, List.getElem?_cons_succ, List.getElem?_cons_zero]; rfl) (by kernel_rfl) (by kernel_rfl) (by kernel_rfl) (by intro _ _ _ h; exact h) (Or.inl ⟨by rfl, ?_⟩) hHeld ?_
      rotate_left 1
      · intro wq hSw
        try dsimp only at hSw
        go_simp
        try (with_reducible rfl)
      try simp only [Act.put, List.setIfInBounds_toArray, List.set_cons_zero, List.set_cons_succ]
      refine wpAnyH_take (i := 4) (v := ?_) (by simp only [List.getElem?_toArray, List.getElem?_cons_succ, List.getElem?_cons_zero]; rfl) (by kernel_rfl) (by kernel_rfl) (by kernel_rfl) (by intro _ _ _ h; exact h) (Or.inl ⟨by rfl, ?_⟩) hHeld ?_
      rotate_left 1
      · intro wq hSw
        try dsimp only at hSw
        have q8 := str_of (s6.below hSw)
        go_simp
        try (with_reducible rfl)
      try simp only [Act.put, List.setIfInBounds_toArray, List.set_cons_zero, List.set_cons_succ]
      refine wpAnyH_take (i := 5) (v := ?_) (by simp only [List.getElem?_toArray, List.getElem?_cons_succ, List.getElem?_cons_zero]; rfl) (by kernel_rfl) (by kernel_rfl) (by kernel_rfl) (by intro _ _ _ h; exact h) (Or.inl ⟨by rfl, ?_⟩) hHeld ?_
      rotate_left 1
      · intro wq hSw
        try dsimp only at hSw
        go_simp
        try (with_reducible rfl)
      try simp only [Act.put, List.setIfInBounds_toArray, List.set_cons_zero, List.set_cons_succ]
      refine wpAnyH_take (i := 6) (v := ?_) (by simp only [List.getElem?_toArray, List.getElem?_cons_succ, List.getElem?_cons_zero]; rfl) (by kernel_rfl) (by kernel_rfl) (by kernel_rfl) (by intro _ _ _ h; exact h) (Or.inl ⟨by rfl, ?_⟩) hHeld ?_
      rotate_left 1
      · intro wq hSw
        try dsimp only at hSw
        go_simp
        try (with_reducible rfl)
      try simp only [Act.put, List.setIfInBounds_toArray, List.set_cons_zero, List.set_cons_succ]
      refine wpAnyH_take (i := 7) (v := ?_) (by simp only [List.getElem?_toArray, List.getElem?_cons_succ, List.getElem?_cons_zero]; rfl) (by kernel_rfl) (by kernel_rfl) (by kernel_rfl) (by intro _ _ _ h; exact h) (Or.inl ⟨by rfl, ?_⟩) hHeld ?_
      rotate_left 1
      · intro wq hSw
        try dsimp only at hSw
        go_simp
        try (with_reducible rfl)
      try simp only [Act.put, List.setIfInBounds_toArray, List.set_cons_zero, List.set_cons_succ]
      refine wpAnyH_take (i := 8) (v := ?_) (by simp only [List.getElem?_toArray, List.getElem?_cons_succ, List.getElem?_cons_zero]; rfl) (by kernel_rfl) (by kernel_rfl) (by kernel_rfl) (by intro _ _ _ h; exact h) (Or.inl ⟨by rfl, ?_⟩) hHeld ?_
      rotate_left 1
      · intro wq hSw
        try dsimp only at hSw
        have q8 := str_of (HU.below hSw)
        go_simp
        try (with_reducible rfl)
      try simp only [Act.put, List.setIfInBounds_toArray, List.set_cons_zero, List.set_cons_succ]
      refine wpAnyH_take (i := 9) (v := ?_) (by simp only [List.getElem?_toArray, List.getElem?_cons_succ, List.getElem?_cons_zero]; rfl) (by kernel_rfl) (by kernel_rfl) (by kernel_rfl) (by intro _ _ _ h; exact h) (Or.inl ⟨by rfl, ?_⟩) hHeld ?_
      rotate_left 1
      · intro wq hSw
        try dsimp only at hSw
        go_simp
        try (with_reducible rfl)
      try simp only [Act.put, List.setIfInBounds_toArray, List.set_cons_zero, List.set_cons_succ]
      refine wpAnyH_take (i := 10) (v := ?_) (by simp only [List.getElem?_toArray, List.getElem?_cons_succ, List.getElem?_cons_zero]; rfl) (by kernel_rfl) (by kernel_rfl) (by kernel_rfl) (by intro _ _ _ h; exact h) (Or.inl ⟨by rfl, ?_⟩) hHeld ?_
      rotate_left 1
      · intro wq hSw
        try dsimp only at hSw
        go_simp
        try (with_reducible rfl)
      try simp only [Act.put, List.setIfInBounds_toArray, List.set_cons_zero, List.set_cons_succ]
      refine wpAnyH_done (by kernel_rfl) ?_ _
      replace V := V.under bd
      replace U := U.under bd
      replace s5 := s5.below bd
      replace bb := bb.trans (bd.mono bb.size)
      have hul := U.lt
      obtain ⟨u0, u1, u2, _⟩ := U.three
      obtain ⟨q0, q1, q2, r0, r1, r2⟩ := V.three
      go_wp2
      try simp only [Exit.inBlock, Exit.then]
      have hs5 : ∀ ad, A5 = some ad → ad.block ≠ w.heap.size := fun ad e => Nat.ne_of_gt (hfr5 ad e)
      refine ret_blk3 rfl rfl (((V.set 0 _).set 1 _).set 2 _) Tryd.underlying25 (by kernel_rfl) rfl rfl (RecErr.mkOk hR.out ⟨A5, Nb, c5, ?_, ?_, ?_, fun ad e => Nat.le_of_lt (hfr5 ad e), ((bb.setCell (p := ⟨w.heap.size, 0, none⟩) (Nat.le_refl _) _).setCell (p := ⟨w.heap.size, 1, none⟩) (Nat.le_refl _) _).setCell (p := ⟨w.heap.size, 2, none⟩) (Nat.le_refl _) _⟩)
      · rw [hcl.out, HCl.out]
      · rw [show (cand b).k = (Kd : Int) from congrArg Nat.cast HK.out, show (cand b).s = q from HQ.out, HZ.out]
        rfl
      · rw [hcl.out]
        exact ((s5.far (a := ⟨w.heap.size, 0, none⟩) hs5 _).far (a := ⟨w.heap.size, 1, none⟩) hs5 _).far (a := ⟨w.heap.size, 2, none⟩) hs5 _
    · have hR : Hid (rdF b = none) := rd_other (by rw [hX.out, HZ.out]; exact hx)
      have hb1 : (X == b.take n6) = false := by simp [hx]
      have hb2 := (bytes_beq7 X (b.take n6)).trans hb1
      generalize b.take n6 = Y at *
      refine wp_region_held_drew (S := fun w' => Below w6.heap.size w6 w') (by kernel_rfl) (Below.refl _ _).drew (fun hHeld => ?_)
      try dsimp only at hHeld
      have bd : Below w6.heap.size w6 w6.drew := (Below.refl w6.heap.size w6).drew
      generalize w6.drew = wd at *
      try simp only [Act.put, List.setIfInBounds_toArray, List.set_cons_zero, List.set_cons_succ]
      refine wpAnyH_take (i := 0) (v := ?_) (by simp only [List.getElem?_toArray, List.getElem?_cons_zero]; rfl) (by kernel_rfl) (by kernel_rfl) (by kernel_rfl) (by intro _ _ _ h; exact h) (Or.inl ⟨by rfl, ?_⟩) hHeld ?_
      rotate_left 1
      · intro wq hSw
        try dsimp only at hSw
        go_simp
        try (with_reducible rfl)
      try simp only [Act.put, List.setIfInBounds_toArray, List.set_cons_zero, List.set_cons_succ]
      refine wpAnyH_take (i := 1) (v := ?_) (by simp only [List.getElem?_toArray, List.getElem?_cons_succ, List.getElem?_cons_zero]; rfl) (by kernel_rfl) (by kernel_rfl) (by kernel_rfl) (by intro _ _ _ h; exact h) (Or.inl ⟨by rfl, ?_⟩) hHeld ?_
      rotate_left 1
      · intro wq hSw
        try dsimp only at hSw
        go_simp
        try (with_reducible rfl)
      try simp only [Act.put, List.setIfInBounds_toArray, List.set_cons_zero, List.set_cons_succ]
      refine wpAnyH_take (i := 2) (v := ?_) (by simp only [List.getElem?_toArray, List.getElem?_cons_succ, List.getElem?_cons_zero]; rfl) (by kernel_rfl) (by kernel_rfl) (by kernel_rfl) (by intro _ _ _ h; exact h) (Or.inl ⟨by rfl, ?_⟩) hHeld ?_
      rotate_left 1
      · intro wq hSw
        try dsimp only at hSw
        go_simp
        try (with_reducible rfl)
      try simp only [Act.put, List.setIfInBounds_toArray, List.set_cons_zero, List.set_cons_succ]
      refine wpAnyH_take (i := 3) (v := ?_) (by simp only [List.getElem?_toArray, List.getElem?_cons_succ, List.getElem?_cons_zero]; rfl) (by kernel_rfl) (by kernel_rfl) (by kernel_rfl) (by intro _ _ _ h; exact h) (Or.inl ⟨by rfl, ?_⟩) hHeld ?_
      rotate_left 1
      · intro wq hSw
        try dsimp only at hSw
        go_simp
        try (with_reducible rfl)
      try simp only [Act.put, List.setIfInBounds_toArray, List.set_cons_zero, List.set_cons_succ]
      refine wpAnyH_take (i := 4) (v := ?_) (by simp only [List.getElem?_toArray, List.getElem?_cons_succ, List.getElem?_cons_zero]; rfl) (by kernel_rfl) (by kernel_rfl) (by kernel_rfl) (by intro _ _ _ h; exact h) (Or.inl ⟨by rfl, ?_⟩) hHeld ?_
      rotate_left 1
      · intro wq hSw
        try dsimp only at hSw
        have q8 := str_of (s6.below hSw)
        go_simp
        try (with_reducible rfl)
      try simp only [Act.put, List.setIfInBounds_toArray, List.set_cons_zero, List.set_cons_succ]
      refine wpAnyH_take (i := 5) (v := ?_) (by simp only [List.getElem?_toArray, List.getElem?_cons_succ, List.getElem?_cons_zero]; rfl) (by kernel_rfl) (by kernel_rfl) (by kernel_rfl) (by intro _ _ _ h; exact h) (Or.inl ⟨by rfl, ?_⟩) hHeld ?_
      rotate_left 1
      · intro wq hSw
        try dsimp only at hSw
        go_simp
        try (with_reducible rfl)
      try simp only [Act.put, List.setIfInBounds_toArray, List.set_cons_zero, List.set_cons_succ]
      refine wpAnyH_take (i := 6) (v := ?_) (by simp only [List.getElem?_toArray, List.getElem?_cons_succ, List.getElem?_cons_zero]; rfl) (by kernel_rfl) (by kernel_rfl) (by kernel_rfl) (by intro _ _ _ h; exact h) (Or.inl ⟨by rfl, ?_⟩) hHeld ?_
      rotate_left 1
      · intro wq hSw
        try dsimp only at hSw
        go_simp
        try (with_reducible rfl)
      try simp only [Act.put, List.setIfInBounds_toArray, List.set_cons_zero, List.set_cons_succ]
      refine wpAnyH_take (i := 7) (v := ?_) (by simp only [List.getElem?_toArray, List.getElem?_cons_succ, List.getElem?_cons_zero]; rfl) (by kernel_rfl) (by kernel_rfl) (by kernel_rfl) (by intro _ _ _ h; exact h) (Or.inl ⟨by rfl, ?_⟩) hHeld ?_
      rotate_left 1
      · intro wq hSw
        try dsimp only at hSw
        go_simp
        try (with_reducible rfl)
      try simp only [Act.put, List.setIfInBounds_toArray, List.set_cons_zero, List.set_cons_succ]
      refine wpAnyH_take (i := 8) (v := ?_) (by simp only [List.getElem?_toArray, List.getElem?_cons_succ, List.getElem?_cons_zero]; rfl) (by kernel_rfl) (by kernel_rfl) (by kernel_rfl) (by intro _ _ _ h; exact h) (Or.inl ⟨by rfl, ?_⟩) hHeld ?_
      rotate_left 1
      · intro wq hSw
        try dsimp only at hSw
        have q8 := str_of (HU.below hSw)
        go_simp
        try (with_reducible rfl)
      try simp only [Act.put, List.setIfInBounds_toArray, List.set_cons_zero, List.set_cons_succ]
      refine wpAnyH_take (i := 9) (v := ?_) (by simp only [List.getElem?_toArray, List.getElem?_cons_succ, List.getElem?_cons_zero]; rfl) (by kernel_rfl) (by kernel_rfl) (by kernel_rfl) (by intro _ _ _ h; exact h) (Or.inl ⟨by rfl, ?_⟩) hHeld ?_
      rotate_left 1
      · intro wq hSw
        try dsimp only at hSw
        go_simp
        try (with_reducible rfl)
      try simp only [Act.put, List.setIfInBounds_toArray, List.set_cons_zero, List.set_cons_succ]
      refine wpAnyH_take (i := 10) (v := ?_) (by simp only [List.getElem?_toArray, List.getElem?_cons_succ, List.getElem?_cons_zero]; rfl) (by kernel_rfl) (by kernel_rfl) (by kernel_rfl) (by intro _ _ _ h; exact h) (Or.inl ⟨by rfl, ?_⟩) hHeld ?_
      rotate_left 1
      · intro wq hSw
        try dsimp only at hSw
        go_simp
        try (with_reducible rfl)
      try simp only [Act.put, List.setIfInBounds_toArray, List.set_cons_zero, List.set_cons_succ]
      refine wpAnyH_done (by kernel_rfl) ?_ _
      replace V := V.under bd
      replace bb := bb.trans (bd.mono bb.size)
      obtain ⟨q0, q1, q2, r0, r1, r2⟩ := V.three
      go_wp2
      try simp only [Exit.inBlock, Exit.then]
      exact ret_blk3 rfl rfl (((V.set 0 _).set 1 _).set 2 _) Tryd.underlying25 (by kernel_rfl) rfl rfl (RecErr.mkNo hR.out ⟨rfl, ((bb.setCell (p := ⟨w.heap.size, 0, none⟩) (Nat.le_refl _) _).setCell (p := ⟨w.heap.size, 1, none⟩) (Nat.le_refl _) _).setCell (p := ⟨w.heap.size, 2, none⟩) (Nat.le_refl _) _⟩)
end Go.Proofs.YtjhpjhgofmlecaaDoor
