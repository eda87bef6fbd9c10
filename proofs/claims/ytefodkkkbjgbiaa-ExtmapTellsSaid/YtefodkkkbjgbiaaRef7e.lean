/-
  Contract of the document's Cut (written by gen_ref7e.py).
-/
import Derived.Test.YtefodkkkbjgbiaaExt4
import Derived.Deep.Cut
namespace Go.Proofs.Ytefodkkkbjgbiaa
open Go.RowKit Go.Wag
set_option linter.unusedVariables false
set_option maxRecDepth 20000
set_option maxHeartbeats 2000000 in
theorem fCut_any (la n k g : Int) (A : Option Addr) (m c : Nat) (l : List UInt8) (a q : Int) (w : World) (h : Sl w A m c (l.map v8)) :
    Calls Try.prog 48 #[.agg #[.int .i64 la, .int .i64 n, .int .i64 k, .int .i64 g, .slice A m c], .int .i64 a, .int .i64 q] w (EPost (.bool (xcut ⟨la, n, k, g, l⟩ a q).isSome) w ((xcut ⟨la, n, k, g, l⟩ a q).getD x0)) := by
  have hl : l.length = m := h.len8
  have hcap := h.cap
  have hbig := h.big
  have V := (Blk.new w #[.int .i64 la, .int .i64 n, .int .i64 k, .int .i64 g, .slice A m c] 35).alloc (.cells #[.int .i64 0, .int .i64 0, .int .i64 0, .int .i64 0, .slice none 0 0] 35)
  have U := Blk.new (w.alloc (.cells #[.int .i64 la, .int .i64 n, .int .i64 k, .int .i64 g, .slice A m c] 35)) #[.int .i64 0, .int .i64 0, .int .i64 0, .int .i64 0, .slice none 0 0] 35
  have bb := ((Below.refl w.heap.size w).alloc (Nat.le_refl _) (.cells #[.int .i64 la, .int .i64 n, .int .i64 k, .int .i64 g, .slice A m c] 35)).alloc (by simp) (.cells #[.int .i64 0, .int .i64 0, .int .i64 0, .int .i64 0, .slice none 0 0] 35)
  simp only [World.size_alloc] at U
  have hok : (⟨la, n, k, g, l⟩ : Xp).ok = xchk la n k g m := by simp [Xp.ok, hl]
  cases r1 : xchk la n k g m
  · rw [xcut_no (by rw [hok, r1]; simp)]
    clear hok
    go_enter Try.func48, Try.ntmps48
    obtain ⟨p0, p1, p2, p3, p4, _⟩ := V.five
    go_wp2_with fail
    refine (fCheck_any la n k g A m c _).mono ?_
    rintro e w1 ⟨rfl, b1⟩
    rw [r1]
    replace V := V.under b1
    replace U := U.under b1
    replace bb := bb.trans (b1.mono bb.size)
    clear p0 p1 p2 p3 p4 b1
    obtain ⟨z0, z1, z2, z3, z4, y0, y1, y2, y3, y4⟩ := U.five
    go_wp2
    try simp only [Exit.inBlock, Exit.then]
    exact ret_blk2 rfl rfl (((((U.set 0 _).set 1 _).set 2 _).set 3 _).set 4 _) Try.underlying35 (by kernel_rfl) rfl (EPost.none _ (((((bb.setCell (p := ⟨w.heap.size + 1, 0, none⟩) (Nat.le_succ _) _).setCell (p := ⟨w.heap.size + 1, 1, none⟩) (Nat.le_succ _) _).setCell (p := ⟨w.heap.size + 1, 2, none⟩) (Nat.le_succ _) _).setCell (p := ⟨w.heap.size + 1, 3, none⟩) (Nat.le_succ _) _).setCell (p := ⟨w.heap.size + 1, 4, none⟩) (Nat.le_succ _) _))
  by_cases ha0 : a < 0
  · rw [xcut_no (by omega)]
    clear hok
    go_enter Try.func48, Try.ntmps48
    obtain ⟨p0, p1, p2, p3, p4, _⟩ := V.five
    go_wp2_with fail
    refine (fCheck_any la n k g A m c _).mono ?_
    rintro e w1 ⟨rfl, b1⟩
    rw [r1]
    replace V := V.under b1
    replace U := U.under b1
    replace bb := bb.trans (b1.mono bb.size)
    clear p0 p1 p2 p3 p4 b1
    obtain ⟨z0, z1, z2, z3, z4, y0, y1, y2, y3, y4⟩ := U.five
    go_wp2
    try simp only [Exit.inBlock, Exit.then]
    exact ret_blk2 rfl rfl (((((U.set 0 _).set 1 _).set 2 _).set 3 _).set 4 _) Try.underlying35 (by kernel_rfl) rfl (EPost.none _ (((((bb.setCell (p := ⟨w.heap.size + 1, 0, none⟩) (Nat.le_succ _) _).setCell (p := ⟨w.heap.size + 1, 1, none⟩) (Nat.le_succ _) _).setCell (p := ⟨w.heap.size + 1, 2, none⟩) (Nat.le_succ _) _).setCell (p := ⟨w.heap.size + 1, 3, none⟩) (Nat.le_succ _) _).setCell (p := ⟨w.heap.size + 1, 4, none⟩) (Nat.le_succ _) _))
  by_cases ha1 : a > 64
  · rw [xcut_no (by omega)]
    clear hok
    go_enter Try.func48, Try.ntmps48
    obtain ⟨p0, p1, p2, p3, p4, _⟩ := V.five
    go_wp2_with fail
    refine (fCheck_any la n k g A m c _).mono ?_
    rintro e w1 ⟨rfl, b1⟩
    rw [r1]
    replace V := V.under b1
    replace U := U.under b1
    replace bb := bb.trans (b1.mono bb.size)
    clear p0 p1 p2 p3 p4 b1
    obtain ⟨z0, z1, z2, z3, z4, y0, y1, y2, y3, y4⟩ := U.five
    go_wp2
    try simp only [Exit.inBlock, Exit.then]
    exact ret_blk2 rfl rfl (((((U.set 0 _).set 1 _).set 2 _).set 3 _).set 4 _) Try.underlying35 (by kernel_rfl) rfl (EPost.none _ (((((bb.setCell (p := ⟨w.heap.size + 1, 0, none⟩) (Nat.le_succ _) _).setCell (p := ⟨w.heap.size + 1, 1, none⟩) (Nat.le_succ _) _).setCell (p := ⟨w.heap.size + 1, 2, none⟩) (Nat.le_succ _) _).setCell (p := ⟨w.heap.size + 1, 3, none⟩) (Nat.le_succ _) _).setCell (p := ⟨w.heap.size + 1, 4, none⟩) (Nat.le_succ _) _))
  by_cases hq0 : q < 0
  · rw [xcut_no (by omega)]
    clear hok
    go_enter Try.func48, Try.ntmps48
    obtain ⟨p0, p1, p2, p3, p4, _⟩ := V.five
    go_wp2_with fail
    refine (fCheck_any la n k g A m c _).mono ?_
    rintro e w1 ⟨rfl, b1⟩
    rw [r1]
    replace V := V.under b1
    replace U := U.under b1
    replace bb := bb.trans (b1.mono bb.size)
    clear p0 p1 p2 p3 p4 b1
    obtain ⟨z0, z1, z2, z3, z4, y0, y1, y2, y3, y4⟩ := U.five
    go_wp2
    try simp only [Exit.inBlock, Exit.then]
    exact ret_blk2 rfl rfl (((((U.set 0 _).set 1 _).set 2 _).set 3 _).set 4 _) Try.underlying35 (by kernel_rfl) rfl (EPost.none _ (((((bb.setCell (p := ⟨w.heap.size + 1, 0, none⟩) (Nat.le_succ _) _).setCell (p := ⟨w.heap.size + 1, 1, none⟩) (Nat.le_succ _) _).setCell (p := ⟨w.heap.size + 1, 2, none⟩) (Nat.le_succ _) _).setCell (p := ⟨w.heap.size + 1, 3, none⟩) (Nat.le_succ _) _).setCell (p := ⟨w.heap.size + 1, 4, none⟩) (Nat.le_succ _) _))
  by_cases hq1 : q > 64
  · rw [xcut_no (by omega)]
    clear hok
    go_enter Try.func48, Try.ntmps48
    obtain ⟨p0, p1, p2, p3, p4, _⟩ := V.five
    go_wp2_with fail
    refine (fCheck_any la n k g A m c _).mono ?_
    rintro e w1 ⟨rfl, b1⟩
    rw [r1]
    replace V := V.under b1
    replace U := U.under b1
    replace bb := bb.trans (b1.mono bb.size)
    clear p0 p1 p2 p3 p4 b1
    obtain ⟨z0, z1, z2, z3, z4, y0, y1, y2, y3, y4⟩ := U.five
    go_wp2
    try simp only [Exit.inBlock, Exit.then]
    exact ret_blk2 rfl rfl (((((U.set 0 _).set 1 _).set 2 _).set 3 _).set 4 _) Try.underlying35 (by kernel_rfl) rfl (EPost.none _ (((((bb.setCell (p := ⟨w.heap.size + 1, 0, none⟩) (Nat.le_succ _) _).setCell (p := ⟨w.heap.size + 1, 1, none⟩) (Nat.le_succ _) _).setCell (p := ⟨w.heap.size + 1, 2, none⟩) (Nat.le_succ _) _).setCell (p := ⟨w.heap.size + 1, 3, none⟩) (Nat.le_succ _) _).setCell (p := ⟨w.heap.size + 1, 4, none⟩) (Nat.le_succ _) _))
  have hx := xchk_all r1
  have s1 : wrap64 (la + n) = la + n := by unfold wrap64; omega
  have s2 : wrap64 (a + q) = a + q := by unfold wrap64; omega
  obtain ⟨s, hs⟩ : ∃ s, (if la < a then a else la) = s := ⟨_, rfl⟩
  obtain ⟨t, ht⟩ : ∃ t, (if a + q < la + n then a + q else la + n) = t := ⟨_, rfl⟩
  have hlo : xlo ⟨la, n, k, g, l⟩ a = s := by rw [← hs]; unfold xlo; simp only; split <;> omega
  have hhi : xhi ⟨la, n, k, g, l⟩ a q = t := by rw [← ht]; unfold xhi; simp only; split <;> omega
  have hs1 : la ≤ s := by rw [← hs]; split <;> omega
  have ht1 : t ≤ la + n := by rw [← ht]; split <;> omega
  by_cases hst : t ≤ s
  · rw [xcut_no (by rw [hlo, hhi]; omega)]
    have hge : s ≥ t := hst
    clear hok hlo hhi hx
    go_enter Try.func48, Try.ntmps48
    obtain ⟨p0, p1, p2, p3, p4, _⟩ := V.five
    go_wp2_with fail
    refine (fCheck_any la n k g A m c _).mono ?_
    rintro e w1 ⟨rfl, b1⟩
    rw [r1]
    replace V := V.under b1
    replace U := U.under b1
    replace bb := bb.trans (b1.mono bb.size)
    clear p0 p1 p2 p3 p4 b1
    obtain ⟨p0, p1, p2, p3, p4, _⟩ := V.five
    obtain ⟨z0, z1, z2, z3, z4, y0, y1, y2, y3, y4⟩ := U.five
    go_wp2
    try simp only [Exit.inBlock, Exit.then]
    exact ret_blk2 rfl rfl (((((U.set 0 _).set 1 _).set 2 _).set 3 _).set 4 _) Try.underlying35 (by kernel_rfl) rfl (EPost.none _ (((((bb.setCell (p := ⟨w.heap.size + 1, 0, none⟩) (Nat.le_succ _) _).setCell (p := ⟨w.heap.size + 1, 1, none⟩) (Nat.le_succ _) _).setCell (p := ⟨w.heap.size + 1, 2, none⟩) (Nat.le_succ _) _).setCell (p := ⟨w.heap.size + 1, 3, none⟩) (Nat.le_succ _) _).setCell (p := ⟨w.heap.size + 1, 4, none⟩) (Nat.le_succ _) _))
  rw [xcut_yes (by rw [hlo, hhi, hok]; exact ⟨r1, by omega, by omega, by omega, by omega, by omega⟩)]
  rw [hlo, hhi]
  have hge : ¬ s ≥ t := by omega
  have hm : m ≤ 2048 := by
    by_cases hk : k = 2
    · have := hx.2.2.2.2.2.2.2.1 hk; omega
    · have := hx.2.2.2.2.2.2.2.2 hk; omega
  have s3 : wrap64 (s - la) = s - la := by unfold wrap64; omega
  have s4 : wrap64 (t - la) = t - la := by unfold wrap64; omega
  have s5 : wrap64 (t - s) = t - s := by unfold wrap64; omega
  have s6 : IntKind.i64.wrap (t - s) = t - s := (IntWalk.i64_left _).trans s5
  have s7 : wrap64 (32 * (s - la)) = 32 * (s - la) := by unfold wrap64; omega
  have s8 : wrap64 (32 * (t - la)) = 32 * (t - la) := by unfold wrap64; omega
  by_cases hk : k = 2
  · have k1 : (k == 2) = true := by simpa using hk
    have hm2 := hx.2.2.2.2.2.2.2.1 hk
    obtain ⟨lo, l0⟩ : ∃ lo : Nat, Hid (32 * (s - la) = (lo : Int)) := ⟨(32 * (s - la)).toNat, by unfold Hid; omega⟩
    obtain ⟨hi, u0⟩ : ∃ lo : Nat, Hid (32 * (t - la) = (lo : Int)) := ⟨(32 * (t - la)).toNat, by unfold Hid; omega⟩
    have hlh : lo ≤ hi := by have := l0.out; have := u0.out; omega
    have hhm : hi ≤ m := by have := u0.out; omega
    have hP := Lib.hid (part_bytes (la := la) (n := n) (k := k) (g := g) (l := l) (s := s) (e := t) (lo := lo) (hi := hi) (fun hk' => absurd hk hk') hs1 (by omega) (fun _ => l0.out.symm) (fun hk' => absurd hk hk') (fun _ => u0.out.symm) (fun hk' => absurd hk hk'))
    have hcut := fun W => run_cut2 (P := Try.prog) 23 5 un22 el22 sz5 A m c .i64 .i64 (32 * (s - la)) (32 * (t - la)) lo hi l0.out u0.out hlh (by omega) W
    obtain ⟨i0, hi0, hz0, hz1, hz2⟩ := info_parts i5
    clear hok hlo hhi hx hm2 hk
    go_enter Try.func48, Try.ntmps48
    obtain ⟨p0, p1, p2, p3, p4, _⟩ := V.five
    go_wp2_with fail
    refine (fCheck_any la n k g A m c _).mono ?_
    rintro e w1 ⟨rfl, b1⟩
    rw [r1]
    replace V := V.under b1
    replace U := U.under b1
    replace bb := bb.trans (b1.mono bb.size)
    clear p0 p1 p2 p3 p4 b1
    obtain ⟨p0, p1, p2, p3, p4, _⟩ := V.five
    obtain ⟨kb, hkb⟩ : ∃ k, w1.heap.size = k := ⟨_, rfl⟩
    have D := Blk.new w1 #[.int .i64 s, .int .i64 (t - s), .int .i64 k, .int .i64 g, .slice none 0 0] 35
    rw [hkb] at D
    have n1 : w.heap.size + 1 ≠ kb := by have := U.lt; omega
    have n0 : w.heap.size ≠ kb := by have := V.lt; omega
    have n2 : w.heap.size ≤ kb := by have := V.lt; omega
    replace V := V.alloc (.cells #[.int .i64 s, .int .i64 (t - s), .int .i64 k, .int .i64 g, .slice none 0 0] 35)
    replace U := U.alloc (.cells #[.int .i64 s, .int .i64 (t - s), .int .i64 k, .int .i64 g, .slice none 0 0] 35)
    replace bb := bb.alloc bb.size (.cells #[.int .i64 s, .int .i64 (t - s), .int .i64 k, .int .i64 g, .slice none 0 0] 35)
    go_upto_region 9 with (fail)
    try simp only [hkb]
    clear hkb
    generalize w1.alloc (.cells #[.int .i64 s, .int .i64 (t - s), .int .i64 k, .int .i64 g, .slice none 0 0] 35) = w3 at *
    clear p0 p1 p2 p3 p4
    obtain ⟨p0, p1, p2, p3, p4, _⟩ := V.five
    have hs1' := (h.below bb).alloc (.cells #[] 5)
    replace hs1' := hs1'.cut hlh hhm
    rw [hP.out] at hs1'
    have HO := Own.empty w3 5
    have V2 := V.alloc (.cells #[] 5)
    have U2 := U.alloc (.cells #[] 5)
    have D2 := D.alloc (.cells #[] 5)
    have b2 := bb.alloc bb.size (.cells #[] 5)
    obtain ⟨x0', x1', x2', x3', x4', _⟩ := V2.five
    have hw3 : w.heap.size + 1 < w3.heap.size := U.lt
    have hk3 : kb < w3.heap.size := D.lt
    go_upto_region 11 with (at_builtin
                            refine wpList_app rfl (.tmp 62) (.tmp 75) 23 rfl rfl HO i0 (.int .u8 0) 1 Try.underlying23 hi0 hz0 hz1 hz2 rfl _ _ _ _ rfl hs1' (oneCell8 _) (by omega) (by omega) ?_
                            intro A6 c6 w6 hw6
                            rw [List.nil_append, Nat.zero_add] at hw6
                            have D6 := D2.ownAt hw6 (by omega)
                            obtain ⟨d0, d1, d2, d3, d4, f0, f1, f2, f3, f4⟩ := D6.five)
    have U6 := U2.ownAt hw6 (by omega)
    have b6 := hw6.belowAt b2 (by simp only [World.size_alloc]; omega) (by omega)
    have N6 : Nw 5 w w6 A6 (hi - lo) c6 _ := own_base hw6.own (by omega)
    have hlt := World.ownsRow.lt hw6.own
    have hfk : ∀ ad, A6 = some ad → ad.block ≠ kb := fun ad e => by subst e; have := (hlt ad.block rfl).1; omega
    have hfU : ∀ ad, A6 = some ad → ad.block ≠ w.heap.size + 1 := fun ad e => by subst e; have := (hlt ad.block rfl).1; omega
    clear d0 d1 d2 d3 d4 f0 f1 f2 f3 f4 hlt hw6
    replace D6 := D6.set 4 (.slice A6 (hi - lo) c6)
    simp only [List.setIfInBounds_toArray, List.set_cons_zero, List.set_cons_succ] at D6
    replace U6 := U6.far (a := ⟨kb, 4, none⟩) n1 (.slice A6 (hi - lo) c6)
    replace N6 := N6.far (a := ⟨kb, 4, none⟩) hfk (.slice A6 (hi - lo) c6)
    replace b6 := b6.setCell (p := ⟨kb, 4, none⟩) n2 (.slice A6 (hi - lo) c6)
    generalize w6.setCell ⟨kb, 4, none⟩ (.slice A6 (hi - lo) c6) = w7 at *
    clear p0 p1 p2 p3 p4 V V2 D D2 U U2 x0' x1' x2' x3' x4' HO b2 bb hs1' hcut
    have hl6 := N6.1
    rw [List.length_map] at hl6
    obtain ⟨d0, d1, d2, d3, d4, _⟩ := D6.five
    obtain ⟨z0, z1, z2, z3, z4, y0, y1, y2, y3, y4⟩ := U6.five
    go_wp2
    try simp only [Exit.inBlock, Exit.then]
    exact ret_blk2 rfl rfl (((((U6.set 0 (_)).set 1 (_)).set 2 (_)).set 3 (_)).set 4 (_)) Try.underlying35 (by kernel_rfl) rfl (EPost.some (x := xpart ⟨la, n, k, g, l⟩ s t) rfl rfl rfl rfl (by simpa using hl6) (((((N6.far (a := ⟨w.heap.size + 1, 0, none⟩) (hfU) (_)).far (a := ⟨w.heap.size + 1, 1, none⟩) (hfU) (_)).far (a := ⟨w.heap.size + 1, 2, none⟩) (hfU) (_)).far (a := ⟨w.heap.size + 1, 3, none⟩) (hfU) (_)).far (a := ⟨w.heap.size + 1, 4, none⟩) (hfU) (_)) (((((b6.setCell (p := ⟨w.heap.size + 1, 0, none⟩) (Nat.le_succ _) (_)).setCell (p := ⟨w.heap.size + 1, 1, none⟩) (Nat.le_succ _) (_)).setCell (p := ⟨w.heap.size + 1, 2, none⟩) (Nat.le_succ _) (_)).setCell (p := ⟨w.heap.size + 1, 3, none⟩) (Nat.le_succ _) (_)).setCell (p := ⟨w.heap.size + 1, 4, none⟩) (Nat.le_succ _) (_)))
  · have k1 : (k == 2) = false := by simpa using hk
    have hl0 : l = [] := List.length_eq_zero_iff.1 (by have := hx.2.2.2.2.2.2.2.2 hk; omega)
    have hp0 : (xpart ⟨la, n, k, g, l⟩ s t).l = [] := by rw [hl0]; simp [xpart]
    clear hok hlo hhi hx hk
    go_enter Try.func48, Try.ntmps48
    obtain ⟨p0, p1, p2, p3, p4, _⟩ := V.five
    go_wp2_with fail
    refine (fCheck_any la n k g A m c _).mono ?_
    rintro e w1 ⟨rfl, b1⟩
    rw [r1]
    replace V := V.under b1
    replace U := U.under b1
    replace bb := bb.trans (b1.mono bb.size)
    clear p0 p1 p2 p3 p4 b1
    obtain ⟨p0, p1, p2, p3, p4, _⟩ := V.five
    obtain ⟨kb, hkb⟩ : ∃ k, w1.heap.size = k := ⟨_, rfl⟩
    have D := Blk.new w1 #[.int .i64 s, .int .i64 (t - s), .int .i64 k, .int .i64 g, .slice none 0 0] 35
    rw [hkb] at D
    have n1 : w.heap.size + 1 ≠ kb := by have := U.lt; omega
    have n0 : w.heap.size ≠ kb := by have := V.lt; omega
    have n2 : w.heap.size ≤ kb := by have := V.lt; omega
    replace V := V.alloc (.cells #[.int .i64 s, .int .i64 (t - s), .int .i64 k, .int .i64 g, .slice none 0 0] 35)
    replace U := U.alloc (.cells #[.int .i64 s, .int .i64 (t - s), .int .i64 k, .int .i64 g, .slice none 0 0] 35)
    replace bb := bb.alloc bb.size (.cells #[.int .i64 s, .int .i64 (t - s), .int .i64 k, .int .i64 g, .slice none 0 0] 35)
    go_upto_region 9 with (fail)
    try simp only [hkb]
    clear hkb
    generalize w1.alloc (.cells #[.int .i64 s, .int .i64 (t - s), .int .i64 k, .int .i64 g, .slice none 0 0] 35) = w3 at *
    clear p0 p1 p2 p3 p4
    obtain ⟨p0, p1, p2, p3, p4, _⟩ := V.five
    obtain ⟨d0, d1, d2, d3, d4, _⟩ := D.five
    obtain ⟨z0, z1, z2, z3, z4, y0, y1, y2, y3, y4⟩ := U.five
    go_wp2
    try simp only [Exit.inBlock, Exit.then]
    exact ret_blk2 rfl rfl (((((U.set 0 (_)).set 1 (_)).set 2 (_)).set 3 (_)).set 4 (_)) Try.underlying35 (by kernel_rfl) rfl (EPost.some (x := xpart ⟨la, n, k, g, l⟩ s t) rfl rfl rfl rfl (by rw [hp0]; rfl) (by rw [hp0]; exact Nw.nil _ _ _) (((((bb.setCell (p := ⟨w.heap.size + 1, 0, none⟩) (Nat.le_succ _) (_)).setCell (p := ⟨w.heap.size + 1, 1, none⟩) (Nat.le_succ _) (_)).setCell (p := ⟨w.heap.size + 1, 2, none⟩) (Nat.le_succ _) (_)).setCell (p := ⟨w.heap.size + 1, 3, none⟩) (Nat.le_succ _) (_)).setCell (p := ⟨w.heap.size + 1, 4, none⟩) (Nat.le_succ _) (_)))
end Go.Proofs.Ytefodkkkbjgbiaa
