/-
  Contract of Cut (written by gen_ext4.py).
-/
import Derived.Test.YtepaojegcaapfaaExt3
import Derived.Test.YtepaojegcaapfaaExt2
namespace Go.Wag
open Go.RowKit
def x0 : Xp := ⟨0, 0, 0, 0, []⟩
theorem xcut_no {x : Xp} {a m : Int} (h : ¬ (x.ok = true ∧ 0 ≤ a ∧ a ≤ 64 ∧ 0 ≤ m ∧ m ≤ 64 ∧ xlo x a < xhi x a m)) : xcut x a m = none := by
  unfold xcut
  rw [if_neg h]
theorem xcut_yes {x : Xp} {a m : Int} (h : x.ok = true ∧ 0 ≤ a ∧ a ≤ 64 ∧ 0 ≤ m ∧ m ≤ 64 ∧ xlo x a < xhi x a m) : xcut x a m = some (xpart x (xlo x a) (xhi x a m)) := by
  unfold xcut
  rw [if_pos h]
/-- Where a part's bytes lie. -/
theorem part_at {k la n : Int} {m : Nat} (hk : k = 2 → (m : Int) = 32 * n) (hk2 : k ≠ 2 → (m : Int) = 0) (hn : n ≤ 64) {s : Int} (h1 : la ≤ s) (h2 : s ≤ la + n) : ∃ lo : Nat, dbF k (s - la) = (lo : Int) ∧ lo ≤ m ∧ (k = 2 → (lo : Int) = 32 * (s - la)) ∧ (k ≠ 2 → lo = 0) := by
  by_cases h : k = 2
  · subst h
    refine ⟨(32 * (s - la)).toNat, ?_, ?_, ?_, ?_⟩
    · rw [dbF_data (by omega) (by omega)]; omega
    · have := hk rfl; omega
    · intro _; omega
    · intro h; exact absurd rfl h
  · exact ⟨0, dbF_none h, by omega, fun e => absurd e h, fun _ => rfl⟩
theorem part_bytes {la n k g : Int} {l : List UInt8} {s e : Int} {lo hi : Nat} (hl : k ≠ 2 → l = []) (h1 : la ≤ s) (h2 : s ≤ e) (l1 : k = 2 → (lo : Int) = 32 * (s - la)) (_ : k ≠ 2 → lo = 0) (u1 : k = 2 → (hi : Int) = 32 * (e - la)) (_ : k ≠ 2 → hi = 0) :
    ((l.map v8).take hi).drop lo = (xpart ⟨la, n, k, g, l⟩ s e).l.map v8 := by
  unfold xpart
  by_cases h : k = 2
  · have e1 : (32 * (e - la)).toNat = hi := by have := u1 h; omega
    have e2 : (32 * (s - la)).toNat = lo := by have := l1 h; omega
    simp only [e1, e2]
    rw [← List.map_take, ← List.map_drop]
  · rw [hl h]
    simp
end Go.Wag
namespace Go.Proofs.Ytepaojegcaapfaa
open Go.RowKit Go.Wag
set_option linter.unusedVariables false
set_option maxRecDepth 20000
/-- An extent in memory of its own, and a value beside it. -/
def EPost (u : Value) (w : World) (x : Xp) (e : Ending) (w' : World) : Prop :=
  ∃ A c, e = .returned (.tuple #[.agg #[.int .i64 x.la, .int .i64 x.n, .int .i64 x.k, .int .i64 x.g, .slice A x.l.length c], u]) ∧ Nw 5 w w' A x.l.length c (x.l.map v8) ∧ Below w.heap.size w w'
theorem EPost.none {w w' : World} (u : Value) (hb : Below w.heap.size w w') : EPost u w x0 (.returned (.tuple #[.agg #[.int .i64 0, .int .i64 0, .int .i64 0, .int .i64 0, .slice none 0 0], u])) w' := ⟨Option.none, 0, rfl, Nw.nil _ _ _, hb⟩
theorem EPost.some {w w' : World} {u : Value} {x : Xp} {s n k g : Int} {A : Option Addr} {m c : Nat} (h1 : x.la = s) (h2 : x.n = n) (h3 : x.k = k) (h4 : x.g = g) (h5 : x.l.length = m) (hN : Nw 5 w w' A m c (x.l.map v8)) (hb : Below w.heap.size w w') :
    EPost u w x (.returned (.tuple #[.agg #[.int .i64 s, .int .i64 n, .int .i64 k, .int .i64 g, .slice A m c], u])) w' := by
  subst h1 h2 h3 h4 h5
  exact ⟨A, c, rfl, hN, hb⟩
set_option maxHeartbeats 2000000 in
theorem eCut_any (la n k g : Int) (A : Option Addr) (m c : Nat) (l : List UInt8) (a q : Int) (w : World) (hla : la ≤ 9223372036854775807) (h : Sl w A m c (l.map v8)) :
    Calls Try.prog 44 #[.agg #[.int .i64 la, .int .i64 n, .int .i64 k, .int .i64 g, .slice A m c], .int .i64 a, .int .i64 q] w (EPost (.bool (xcut ⟨la, n, k, g, l⟩ a q).isSome) w ((xcut ⟨la, n, k, g, l⟩ a q).getD x0)) := by
  have hl : l.length = m := h.len8
  have hcap := h.cap
  have hbig := h.big
  have V := (Blk.new w #[.int .i64 la, .int .i64 n, .int .i64 k, .int .i64 g, .slice A m c] 38).alloc (.cells #[.int .i64 0, .int .i64 0, .int .i64 0, .int .i64 0, .slice none 0 0] 38)
  have U := Blk.new (w.alloc (.cells #[.int .i64 la, .int .i64 n, .int .i64 k, .int .i64 g, .slice A m c] 38)) #[.int .i64 0, .int .i64 0, .int .i64 0, .int .i64 0, .slice none 0 0] 38
  have bb := ((Below.refl w.heap.size w).alloc (Nat.le_refl _) (.cells #[.int .i64 la, .int .i64 n, .int .i64 k, .int .i64 g, .slice A m c] 38)).alloc (by simp) (.cells #[.int .i64 0, .int .i64 0, .int .i64 0, .int .i64 0, .slice none 0 0] 38)
  replace h := (h.alloc (.cells #[.int .i64 la, .int .i64 n, .int .i64 k, .int .i64 g, .slice A m c] 38)).alloc (.cells #[.int .i64 0, .int .i64 0, .int .i64 0, .int .i64 0, .slice none 0 0] 38)
  simp only [World.size_alloc] at U
  have hok : (⟨la, n, k, g, l⟩ : Xp).ok = xchk la n k g m := by simp [Xp.ok, hl]
  cases r1 : xchk la n k g m
  · rw [xcut_no (by rw [hok, r1]; simp)]
    clear hok
    go_enter Try.func44, Try.ntmps44
    obtain ⟨p0, p1, p2, p3, p4, _⟩ := V.five
    go_wp2_with fail
    refine (eCheck_any la n k g A m c _ hla).mono ?_
    rintro e w1 ⟨rfl, b1⟩
    rw [r1]
    replace V := V.under b1
    replace U := U.under b1
    replace h := h.below b1
    replace bb := bb.trans (b1.mono bb.size)
    clear p0 p1 p2 p3 p4 b1
    obtain ⟨z0, z1, z2, z3, z4, y0, y1, y2, y3, y4⟩ := U.five
    go_wp2
    try simp only [Exit.inBlock, Exit.then]
    exact ret_blk2 rfl rfl (((((U.set 0 _).set 1 _).set 2 _).set 3 _).set 4 _) Try.underlying38 (by kernel_rfl) rfl (EPost.none _ (((((bb.setCell (p := ⟨w.heap.size + 1, 0, none⟩) (Nat.le_succ _) _).setCell (p := ⟨w.heap.size + 1, 1, none⟩) (Nat.le_succ _) _).setCell (p := ⟨w.heap.size + 1, 2, none⟩) (Nat.le_succ _) _).setCell (p := ⟨w.heap.size + 1, 3, none⟩) (Nat.le_succ _) _).setCell (p := ⟨w.heap.size + 1, 4, none⟩) (Nat.le_succ _) _))
  by_cases ha : ¬ (0 ≤ a ∧ a ≤ 64)
  · rw [xcut_no (by omega)]
    have ea : decide (0 ≤ a ∧ a ≤ 64) = false := decide_eq_false ha
    clear hok
    go_enter Try.func44, Try.ntmps44
    obtain ⟨p0, p1, p2, p3, p4, _⟩ := V.five
    go_wp2_with fail
    refine (eCheck_any la n k g A m c _ hla).mono ?_
    rintro e w1 ⟨rfl, b1⟩
    rw [r1]
    replace V := V.under b1
    replace U := U.under b1
    replace h := h.below b1
    replace bb := bb.trans (b1.mono bb.size)
    clear p0 p1 p2 p3 p4 b1
    go_wp2_with fail
    refine (eIs_any a w1).mono ?_
    rintro e w2 ⟨rfl, rfl⟩
    rw [ea]
    obtain ⟨z0, z1, z2, z3, z4, y0, y1, y2, y3, y4⟩ := U.five
    go_wp2
    try simp only [Exit.inBlock, Exit.then]
    exact ret_blk2 rfl rfl (((((U.set 0 _).set 1 _).set 2 _).set 3 _).set 4 _) Try.underlying38 (by kernel_rfl) rfl (EPost.none _ (((((bb.setCell (p := ⟨w.heap.size + 1, 0, none⟩) (Nat.le_succ _) _).setCell (p := ⟨w.heap.size + 1, 1, none⟩) (Nat.le_succ _) _).setCell (p := ⟨w.heap.size + 1, 2, none⟩) (Nat.le_succ _) _).setCell (p := ⟨w.heap.size + 1, 3, none⟩) (Nat.le_succ _) _).setCell (p := ⟨w.heap.size + 1, 4, none⟩) (Nat.le_succ _) _))
  by_cases hq : ¬ (0 ≤ q ∧ q ≤ 64)
  · rw [xcut_no (by omega)]
    have ea : decide (0 ≤ a ∧ a ≤ 64) = true := decide_eq_true (Classical.not_not.1 ha)
    have eq' : decide (0 ≤ q ∧ q ≤ 64) = false := decide_eq_false hq
    clear hok
    go_enter Try.func44, Try.ntmps44
    obtain ⟨p0, p1, p2, p3, p4, _⟩ := V.five
    go_wp2_with fail
    refine (eCheck_any la n k g A m c _ hla).mono ?_
    rintro e w1 ⟨rfl, b1⟩
    rw [r1]
    replace V := V.under b1
    replace U := U.under b1
    replace h := h.below b1
    replace bb := bb.trans (b1.mono bb.size)
    clear p0 p1 p2 p3 p4 b1
    go_wp2_with fail
    refine (eIs_any a w1).mono ?_
    rintro e w2 ⟨rfl, rfl⟩
    rw [ea]
    go_wp2_with fail
    refine (eIs_any q w1).mono ?_
    rintro e w2 ⟨rfl, rfl⟩
    rw [eq']
    obtain ⟨z0, z1, z2, z3, z4, y0, y1, y2, y3, y4⟩ := U.five
    go_wp2
    try simp only [Exit.inBlock, Exit.then]
    exact ret_blk2 rfl rfl (((((U.set 0 _).set 1 _).set 2 _).set 3 _).set 4 _) Try.underlying38 (by kernel_rfl) rfl (EPost.none _ (((((bb.setCell (p := ⟨w.heap.size + 1, 0, none⟩) (Nat.le_succ _) _).setCell (p := ⟨w.heap.size + 1, 1, none⟩) (Nat.le_succ _) _).setCell (p := ⟨w.heap.size + 1, 2, none⟩) (Nat.le_succ _) _).setCell (p := ⟨w.heap.size + 1, 3, none⟩) (Nat.le_succ _) _).setCell (p := ⟨w.heap.size + 1, 4, none⟩) (Nat.le_succ _) _))
  replace ha := Classical.not_not.1 ha
  replace hq := Classical.not_not.1 hq
  have hx := xchk_all r1
  have ea : decide (0 ≤ a ∧ a ≤ 64) = true := decide_eq_true ha
  have eq' : decide (0 ≤ q ∧ q ≤ 64) = true := decide_eq_true hq
  have s1 : wrap64 (la + n) = la + n := by unfold wrap64; omega
  have s2 : wrap64 (a + q) = a + q := by unfold wrap64; omega
  obtain ⟨s, hs⟩ : ∃ s, (if la < a then a else la) = s := ⟨_, rfl⟩
  obtain ⟨t, ht⟩ : ∃ t, (if a + q < la + n then a + q else la + n) = t := ⟨_, rfl⟩
  have hlo : xlo ⟨la, n, k, g, l⟩ a = s := by rw [← hs]; unfold xlo; simp only; split <;> omega
  have hhi : xhi ⟨la, n, k, g, l⟩ a q = t := by rw [← ht]; unfold xhi; simp only; split <;> omega
  have hs1 : la ≤ s := by rw [← hs]; split <;> omega
  have ht1 : t ≤ la + n := by rw [← ht]; split <;> omega
  by_cases hst : t ≤ s
  · rw [xcut_no (by rw [hlo, hhi]; omega)]
    have hge : s ≥ t := hst
    clear hok hlo hhi hx
    go_enter Try.func44, Try.ntmps44
    obtain ⟨p0, p1, p2, p3, p4, _⟩ := V.five
    go_wp2_with fail
    refine (eCheck_any la n k g A m c _ hla).mono ?_
    rintro e w1 ⟨rfl, b1⟩
    rw [r1]
    replace V := V.under b1
    replace U := U.under b1
    replace h := h.below b1
    replace bb := bb.trans (b1.mono bb.size)
    clear p0 p1 p2 p3 p4 b1
    go_wp2_with fail
    refine (eIs_any a w1).mono ?_
    rintro e w2 ⟨rfl, rfl⟩
    rw [ea]
    go_wp2_with fail
    refine (eIs_any q w1).mono ?_
    rintro e w2 ⟨rfl, rfl⟩
    rw [eq']
    obtain ⟨p0, p1, p2, p3, p4, _⟩ := V.five
    go_wp2_with fail
    go_quiet (fail)
    replace U : Blk (w1.drewN nq) _ _ _ := U
    replace bb := drewN_below bb nq
    generalize w1.drewN nq = w4 at *
    clear p0 p1 p2 p3 p4
    obtain ⟨z0, z1, z2, z3, z4, y0, y1, y2, y3, y4⟩ := U.five
    go_wp2
    try simp only [Exit.inBlock, Exit.then]
    exact ret_blk2 rfl rfl (((((U.set 0 _).set 1 _).set 2 _).set 3 _).set 4 _) Try.underlying38 (by kernel_rfl) rfl (EPost.none _ (((((bb.setCell (p := ⟨w.heap.size + 1, 0, none⟩) (Nat.le_succ _) _).setCell (p := ⟨w.heap.size + 1, 1, none⟩) (Nat.le_succ _) _).setCell (p := ⟨w.heap.size + 1, 2, none⟩) (Nat.le_succ _) _).setCell (p := ⟨w.heap.size + 1, 3, none⟩) (Nat.le_succ _) _).setCell (p := ⟨w.heap.size + 1, 4, none⟩) (Nat.le_succ _) _))
  rw [xcut_yes (by rw [hlo, hhi, hok]; exact ⟨r1, ha.1, ha.2, hq.1, hq.2, by omega⟩)]
  rw [hlo, hhi]
  have hge : ¬ s ≥ t := by omega
  obtain ⟨lo, l0, l1, l2, l3⟩ := part_at (k := k) (la := la) (n := n) (m := m) (s := s) hx.2.2.2.2.2.2.2.1 hx.2.2.2.2.2.2.2.2 (by omega) hs1 (by omega)
  obtain ⟨hi, u0, u1, u2, u3⟩ := part_at (k := k) (la := la) (n := n) (m := m) (s := t) hx.2.2.2.2.2.2.2.1 hx.2.2.2.2.2.2.2.2 (by omega) (by omega) ht1
  have hlh : lo ≤ hi := by
    by_cases hk : k = 2
    · have := l2 hk; have := u2 hk; omega
    · have := l3 hk; omega
  have hm : m ≤ 2048 := by
    by_cases hk : k = 2
    · have := hx.2.2.2.2.2.2.2.1 hk; omega
    · have := hx.2.2.2.2.2.2.2.2 hk; omega
  have hP := Lib.hid (part_bytes (la := la) (n := n) (k := k) (g := g) (l := l) (s := s) (e := t) (lo := lo) (hi := hi) (fun hk => List.length_eq_zero_iff.1 (by have := hx.2.2.2.2.2.2.2.2 hk; omega)) hs1 (by omega) l2 l3 u2 u3)
  have hcut := fun W => run_cut2 (P := Try.prog) 23 5 un22 el22 sz5 A m c .i64 .i64 (dbF k (s - la)) (dbF k (t - la)) lo hi l0 u0 hlh (by omega) W
  have s3 : wrap64 (s - la) = s - la := by unfold wrap64; omega
  have s4 : wrap64 (t - la) = t - la := by unfold wrap64; omega
  have s5 : wrap64 (t - s) = t - s := by unfold wrap64; omega
  have s6 : IntKind.i64.wrap (t - s) = t - s := (IntWalk.i64_left _).trans s5
  clear hok hlo hhi hx l0 u0 l2 l3 u2 u3
  go_enter Try.func44, Try.ntmps44
  obtain ⟨p0, p1, p2, p3, p4, _⟩ := V.five
  go_wp2_with fail
  refine (eCheck_any la n k g A m c _ hla).mono ?_
  rintro e w1 ⟨rfl, b1⟩
  rw [r1]
  replace V := V.under b1
  replace U := U.under b1
  replace h := h.below b1
  replace bb := bb.trans (b1.mono bb.size)
  clear p0 p1 p2 p3 p4 b1
  go_wp2_with fail
  refine (eIs_any a w1).mono ?_
  rintro e w2 ⟨rfl, rfl⟩
  rw [ea]
  go_wp2_with fail
  refine (eIs_any q w1).mono ?_
  rintro e w2 ⟨rfl, rfl⟩
  rw [eq']
  obtain ⟨p0, p1, p2, p3, p4, _⟩ := V.five
  go_wp2_with fail
  go_quiet (fail)
  replace V : Blk (w1.drewN nq) _ _ _ := V
  replace U : Blk (w1.drewN nq) _ _ _ := U
  replace h := h.below (drewN_below (Below.refl w1.heap.size w1) nq)
  replace bb := drewN_below bb nq
  generalize w1.drewN nq = w4 at *
  clear p0 p1 p2 p3 p4 hs ht
  obtain ⟨p0, p1, p2, p3, p4, _⟩ := V.five
  go_wp2_with fail
  go_quiet ((go_at_call 60; exact Calls.quiet_of_same (eData_any _ _ _)))
  replace V : Blk (w4.drewN nq) _ _ _ := V
  replace U : Blk (w4.drewN nq) _ _ _ := U
  replace h := h.below (drewN_below (Below.refl w4.heap.size w4) nq)
  replace bb := drewN_below bb nq
  generalize w4.drewN nq = w5 at *
  clear p0 p1 p2 p3 p4
  have h5 := h.cut hlh u1
  rw [hP.out] at h5
  have hm5 : hi - lo ≤ 2048 := by omega
  have hl5 := h5.len8
  generalize cutA A c lo = A5 at *
  generalize hi - lo = m5 at *
  generalize c - lo = c5 at *
  go_wp2_with fail
  refine wp_region_held_drew (S := fun w' => Below (w.heap.size + 1) w5 w') (by kernel_rfl) (Below.refl _ _).drew (fun hHeld => ?_)
  try dsimp only at hHeld
  have bd : Below (w.heap.size + 1) w5 w5.drew := (Below.refl (w.heap.size + 1) w5).drew
  replace h := h5.drew
  replace U := U.drew
  generalize w5.drew = wd at *
  try simp only [Act.put, List.setIfInBounds_toArray, List.set_cons_zero, List.set_cons_succ]
  refine wpAnyH_take (i := 0) (v := ?_) (by simp only [List.getElem?_toArray, List.getElem?_cons_zero]; rfl) (by kernel_rfl) (by kernel_rfl) (by kernel_rfl) (by intro _ _ _ h; exact h) (Or.inl ⟨by rfl, ?_⟩) hHeld ?_
  rotate_left 1
  · intro wq hSw
    try dsimp only at hSw
    go_simp
    try (with_reducible rfl)
  try simp only [Act.put, List.setIfInBounds_toArray, List.set_cons_zero, List.set_cons_succ]
  refine wpAnyH_take (i := 1) (v := ?_) (by simp only [List.getElem?_toArray, List.getElem?_cons_succ, List.getElem?_cons_zero]; rfl) (by kernel_rfl) (by kernel_rfl) (by kernel_rfl) (by intro _ _ _ h; exact h) (Or.inl ⟨by rfl, ?_⟩) hHeld ?_
  rotate_left 1
  · intro wq hSw
    try dsimp only at hSw
    go_simp
    try (with_reducible rfl)
  try simp only [Act.put, List.setIfInBounds_toArray, List.set_cons_zero, List.set_cons_succ]
  refine wpAnyH_take (i := 2) (v := ?_) (by simp only [List.getElem?_toArray, List.getElem?_cons_succ, List.getElem?_cons_zero]; rfl) (by kernel_rfl) (by kernel_rfl) (by kernel_rfl) (by intro _ _ _ h; exact h) (Or.inl ⟨by rfl, ?_⟩) hHeld ?_
  rotate_left 1
  · intro wq hSw
    try dsimp only at hSw
    go_simp
    try (with_reducible rfl)
  try simp only [Act.put, List.setIfInBounds_toArray, List.set_cons_zero, List.set_cons_succ]
  refine wpAnyH_take (i := 3) (v := ?_) (by simp only [List.getElem?_toArray, List.getElem?_cons_succ, List.getElem?_cons_zero]; rfl) (by kernel_rfl) (by kernel_rfl) (by kernel_rfl) (by intro _ _ _ h; exact h) (Or.inl ⟨by rfl, ?_⟩) hHeld ?_
  rotate_left 1
  · intro wq hSw
    try dsimp only at hSw
    go_simp
    try (with_reducible rfl)
  try simp only [Act.put, List.setIfInBounds_toArray, List.set_cons_zero, List.set_cons_succ]
  refine wpAnyH_take (i := 4) (v := ?_) (by simp only [List.getElem?_toArray, List.getElem?_cons_succ, List.getElem?_cons_zero]; rfl) (by kernel_rfl) (by kernel_rfl) (by kernel_rfl) (by intro _ _ _ h; exact h) (Or.inl ⟨by rfl, ?_⟩) hHeld ?_
  rotate_left 1
  · intro wq hSw
    try dsimp only at hSw
    go_simp
    try (with_reducible rfl)
  try simp only [Act.put, List.setIfInBounds_toArray, List.set_cons_zero, List.set_cons_succ]
  refine wpAnyH_take (i := 5) (v := ?_) (by simp only [List.getElem?_toArray, List.getElem?_cons_succ, List.getElem?_cons_zero]; rfl) (by kernel_rfl) (by kernel_rfl) (by kernel_rfl) (by intro _ _ _ h; exact h) (Or.inl ⟨by rfl, ?_⟩) hHeld ?_
  rotate_left 1
  · intro wq hSw
    try dsimp only at hSw
    obtain ⟨x0, x1, x2, x3, x4, _⟩ := (V.below hSw (Nat.lt_succ_self _)).five
    go_simp
    try (with_reducible rfl)
  try simp only [Act.put, List.setIfInBounds_toArray, List.set_cons_zero, List.set_cons_succ]
  refine wpAnyH_take (i := 6) (v := ?_) (by simp only [List.getElem?_toArray, List.getElem?_cons_succ, List.getElem?_cons_zero]; rfl) (by kernel_rfl) (by kernel_rfl) (by kernel_rfl) (by intro _ _ _ h; exact h) (Or.inl ⟨by rfl, ?_⟩) hHeld ?_
  rotate_left 1
  · intro wq hSw
    try dsimp only at hSw
    go_simp
    try (with_reducible rfl)
  try simp only [Act.put, List.setIfInBounds_toArray, List.set_cons_zero, List.set_cons_succ]
  refine wpAnyH_take (i := 7) (v := ?_) (by simp only [List.getElem?_toArray, List.getElem?_cons_succ, List.getElem?_cons_zero]; rfl) (by kernel_rfl) (by kernel_rfl) (by kernel_rfl) (by intro _ _ _ h; exact h) (Or.inl ⟨by rfl, ?_⟩) hHeld ?_
  rotate_left 1
  · intro wq hSw
    try dsimp only at hSw
    obtain ⟨x0, x1, x2, x3, x4, _⟩ := (V.below hSw (Nat.lt_succ_self _)).five
    go_simp
    try (with_reducible rfl)
  try simp only [Act.put, List.setIfInBounds_toArray, List.set_cons_zero, List.set_cons_succ]
  refine wpAnyH_take (i := 8) (v := ?_) (by simp only [List.getElem?_toArray, List.getElem?_cons_succ, List.getElem?_cons_zero]; rfl) (by kernel_rfl) (by kernel_rfl) (by kernel_rfl) (by intro _ _ _ h; exact h) (Or.inl ⟨by rfl, ?_⟩) hHeld ?_
  rotate_left 1
  · intro wq hSw
    try dsimp only at hSw
    go_simp
    try (with_reducible rfl)
  try simp only [Act.put, List.setIfInBounds_toArray, List.set_cons_zero, List.set_cons_succ]
  refine wpAnyH_ready (rs := [9]) (by kernel_rfl) (by simp) ?_
  refine AllReadyH.cons (by simp only [List.getElem?_toArray, List.getElem?_cons_succ, List.getElem?_cons_zero]; rfl) (fun K hK => ?_) AllReadyH.nil
  go_simp
  refine (eCopied_any A5 m5 c5 _ wd h (by omega)).mono ?_
  rintro e w6 ⟨A6, c6, rfl, N6, b6⟩
  have hf6 : ∀ ad, A6 = some ad → ad.block ≠ w.heap.size + 1 := fun ad e => by have := N6.fr ad e; have := U.lt; omega
  replace N6 : Nw 5 w w6 A6 m5 c6 _ := Nw.mono (w1 := wd) N6 (Nat.le_trans (Nat.le_of_lt (Nat.lt_of_succ_lt U.lt)) (Nat.le_refl _))
  replace bd := bd.trans (b6.mono (Nat.le_of_lt U.lt))
  replace U := U.under b6
  clear b6
  go_wp2_with fail
  refine hK.out _ _ (bd) (fun hHeld => ?_)
  clear hK K
  try dsimp only at hHeld
  try simp only [Act.put, List.setIfInBounds_toArray, List.set_cons_zero, List.set_cons_succ]
  refine wpAnyH_take (i := 10) (v := ?_) (by simp only [List.getElem?_toArray, List.getElem?_cons_succ, List.getElem?_cons_zero]; rfl) (by kernel_rfl) (by kernel_rfl) (by kernel_rfl) (by intro _ _ _ h; exact h) (Or.inl ⟨by rfl, ?_⟩) hHeld ?_
  rotate_left 1
  · intro wq hSw
    try dsimp only at hSw
    go_simp
    try (with_reducible rfl)
  try simp only [Act.put, List.setIfInBounds_toArray, List.set_cons_zero, List.set_cons_succ]
  refine wpAnyH_ready (rs := [11]) (by kernel_rfl) (by simp) ?_
  refine AllReadyH.cons (by simp only [List.getElem?_toArray, List.getElem?_cons_succ, List.getElem?_cons_zero]; rfl) (fun K hK => ?_) AllReadyH.nil
  obtain ⟨z0, z1, z2, z3, z4, y0, y1, y2, y3, y4⟩ := U.five
  go_simp
  have U2 := (((((U.set 0 (.int .i64 s)).set 1 (.int .i64 (t - s))).set 2 (.int .i64 k)).set 3 (.int .i64 g)).set 4 (.slice A6 m5 c6))
  simp only [List.setIfInBounds_toArray, List.set_cons_zero, List.set_cons_succ] at U2
  have bd2 := (((((bd.setCell (p := ⟨w.heap.size + 1, 0, none⟩) (Nat.le_refl _) (.int .i64 s)).setCell (p := ⟨w.heap.size + 1, 1, none⟩) (Nat.le_refl _) (.int .i64 (t - s))).setCell (p := ⟨w.heap.size + 1, 2, none⟩) (Nat.le_refl _) (.int .i64 k)).setCell (p := ⟨w.heap.size + 1, 3, none⟩) (Nat.le_refl _) (.int .i64 g)).setCell (p := ⟨w.heap.size + 1, 4, none⟩) (Nat.le_refl _) (.slice A6 m5 c6))
  have N7 := (((((N6.far (a := ⟨w.heap.size + 1, 0, none⟩) hf6 (.int .i64 s)).far (a := ⟨w.heap.size + 1, 1, none⟩) hf6 (.int .i64 (t - s))).far (a := ⟨w.heap.size + 1, 2, none⟩) hf6 (.int .i64 k)).far (a := ⟨w.heap.size + 1, 3, none⟩) hf6 (.int .i64 g)).far (a := ⟨w.heap.size + 1, 4, none⟩) hf6 (.slice A6 m5 c6))
  clear z0 z1 z2 z3 z4 y0 y1 y2 y3 y4 U bd N6
  generalize (((((w6.setCell ⟨w.heap.size + 1, 0, none⟩ (.int .i64 s)).setCell ⟨w.heap.size + 1, 1, none⟩ (.int .i64 (t - s))).setCell ⟨w.heap.size + 1, 2, none⟩ (.int .i64 k)).setCell ⟨w.heap.size + 1, 3, none⟩ (.int .i64 g)).setCell ⟨w.heap.size + 1, 4, none⟩ (.slice A6 m5 c6)) = w7 at *
  refine hK.out _ _ (bd2) (fun hHeld => ?_)
  clear hK K
  try dsimp only at hHeld
  try simp only [Act.put, List.setIfInBounds_toArray, List.set_cons_zero, List.set_cons_succ]
  refine wpAnyH_take (i := 12) (v := ?_) (by simp only [List.getElem?_toArray, List.getElem?_cons_succ, List.getElem?_cons_zero]; rfl) (by kernel_rfl) (by kernel_rfl) (by kernel_rfl) (by intro _ _ _ h; exact h) (Or.inl ⟨by rfl, ?_⟩) hHeld ?_
  rotate_left 1
  · intro wq hSw
    try dsimp only at hSw
    go_simp
    try (with_reducible rfl)
  try simp only [Act.put, List.setIfInBounds_toArray, List.set_cons_zero, List.set_cons_succ]
  refine wpAnyH_done (by kernel_rfl) ?_ _
  go_wp2
  try simp only [Exit.inBlock, Exit.then]
  exact ret_blk2 rfl rfl U2 Try.underlying38 (by kernel_rfl) rfl (EPost.some rfl rfl rfl rfl hl5 N7 (bb.trans (bd2.mono (Nat.le_succ _))))
end Go.Proofs.Ytepaojegcaapfaa
