/-
  Contracts of package dev: New, Crash, Read, and a flush's closure (written by gen_dev3.py).
-/
import Derived.Test.YtnjekhnheihooaaDev2
import Derived.Test.YtnjekhnheihooaaDrawn
namespace Go.Proofs.Ytnjekhnheihooaa
open Go.RowKit Go.Wag
set_option linter.unusedVariables false

/-- What New answers. -/
def NewPost (w : World) (n size : Int) (e : Ending) (w' : World) : Prop :=
  (mayF n size = true ∧ DevErr w size (-1) 0 false (List.replicate n.toNat zero4) 0 e w') ∨ (mayF n size = false ∧ e = .returned (.tuple #[.agg #[.int .i64 0, .slice none 0 0, .int .i64 0, .bool false, .int .i64 0], .int .i64 1]) ∧ Below w.heap.size w w')

theorem dNew_any (n size : Int) (w : World) : Calls Try.prog 12 #[.int .i64 n, .int .i64 size] w (NewPost w n size) := by
  have B0 := Blk.new w #[.int .i64 0, .slice none 0 0, .int .i64 0, .bool false, .int .i64 0] 25
  have b0 := (Below.refl w.heap.size w).alloc (Nat.le_refl _) (.cells #[.int .i64 0, .slice none 0 0, .int .i64 0, .bool false, .int .i64 0] 25)
  have hs0 : (w.alloc (.cells #[.int .i64 0, .slice none 0 0, .int .i64 0, .bool false, .int .i64 0] 25)).heap.size = w.heap.size + 1 := by simp
  cases hm : mayF n size with
  | false =>
    go_enter Try.func12, Try.ntmps12
    go_wp2_with fail
    generalize w.alloc (.cells #[.int .i64 0, .slice none 0 0, .int .i64 0, .bool false, .int .i64 0] 25) = w0 at *
    refine (dmayHave_any _ _ _).mono ?_
    rw [hm]
    rintro e w1 ⟨rfl, rfl⟩
    obtain ⟨r0, r1, r2, r3, r4, g0, g1, g2, g3, g4⟩ := B0.five
    go_wp2
    try simp only [Exit.inBlock, Exit.then]
    exact ret_blk2 rfl rfl (((((B0.set 0 _).set 1 _).set 2 _).set 3 _).set 4 _) Try.underlying25 (by kernel_rfl) rfl (.inr ⟨hm, rfl, ((((b0.setCell (Nat.le_refl _) _).setCell (Nat.le_refl _) _).setCell (Nat.le_refl _) _).setCell (Nat.le_refl _) _).setCell (Nat.le_refl _) _⟩)
  | true =>
    have hm2 : 1 ≤ n ∧ n ≤ 64 ∧ 1 ≤ size ∧ size ≤ 1048576 := by simpa only [mayF, decide_eq_true_eq] using hm
    obtain ⟨k, rfl⟩ : ∃ k : Nat, n = k := ⟨n.toNat, by omega⟩
    have hmk := run_mkz k (by omega)
    go_enter Try.func12, Try.ntmps12
    go_wp2_with fail
    generalize w.alloc (.cells #[.int .i64 0, .slice none 0 0, .int .i64 0, .bool false, .int .i64 0] 25) = w0 at *
    refine (dmayHave_any _ _ _).mono ?_
    rw [hm]
    rintro e w1 ⟨rfl, rfl⟩
    obtain ⟨r0, r1, r2, r3, r4, g0, g1, g2, g3, g4⟩ := B0.five
    go_wp2
    try simp only [Exit.inBlock, Exit.then]
    refine ret_blk2 rfl rfl ((((((B0.set 0 _).set 1 _).set 2 _).set 3 _).set 4 _).alloc _) Try.underlying25 (by kernel_rfl) rfl (Or.inl ⟨hm, w.heap.size + 1, by simp, ?_, ?_⟩)
    · exact Zo.made_at _ k 46 _ (by simpa [World.setCell] using hs0) _ (by omega)
    · exact (((((b0.setCell (Nat.le_refl _) _).setCell (Nat.le_refl _) _).setCell (Nat.le_refl _) _).setCell (Nat.le_refl _) _).setCell (Nat.le_refl _) _).alloc (by simp [World.setCell]; omega) _

/-- A row of integers. -/
def iv (x : Int) : Value := .int .i64 x
/-- A zone behind a crash. -/
def crZ (size keep : Int) (z : Zp) : Zp := ⟨crSt z.st z.rs z.l.length z.la size keep, z.rs, crLa z.st z.rs z.l.length z.la size keep, crDa z.st z.rs z.l.length z.la size keep z.l⟩
def keepAt (ks : List Int) (i : Nat) : Int := ks.getD i 0
def fits (ks : List Int) : Prop := ∀ x ∈ ks, -9223372036854775808 ≤ x ∧ x < 9223372036854775808

set_option maxHeartbeats 1000000 in
theorem dCrash1_any (i : Nat) (z : Zp) (Ai : Option Addr) (ci : Nat) (size lf dn : Int) (dw : Bool) (A : Option Addr) (n c : Nat) (Ak : Option Addr) (ck : Nat) (ks : List Int) (kd kk tk : Nat) (w : World) (h : Sl w Ai z.l.length ci (z.l.map v8)) (hn : z.l.length ≤ 1048576)
    (hd : Blk w kd #[.int .i64 size, .slice A n c, .int .i64 lf, .bool dw, .int .i64 dn] 25) (hk : Blk w kk #[.slice Ak ks.length ck] tk) (hs : Sl w Ak ks.length ck (ks.map iv)) (hf : fits ks) (hi : i ≤ 1000) :
    Calls Try.prog 31 #[.int .i64 (i : Int), .agg #[.int .i64 z.st, .int .i64 z.rs, .slice Ai z.l.length ci, .int .i64 z.la], .pointer (some ⟨kk, 0, none⟩), .pointer (some ⟨kd, 0, none⟩)] w (ZoneNew w (crZ size (keepAt ks i) z).st (crZ size (keepAt ks i) z).rs (crZ size (keepAt ks i) z).l (crZ size (keepAt ks i) z).la) := by
  have hAi : 0 < z.l.length → ∀ ad, Ai = some ad → ad.block ≠ w.heap.size + 1 := fun hn ad e => by
    obtain ⟨ad', e', hb, _⟩ := h.cells hn
    cases e.symm.trans e'
    omega
  have B0 := (Blk.new w #[.int .i64 z.st, .int .i64 z.rs, .slice Ai z.l.length ci, .int .i64 z.la] 46).alloc (.cells #[.int .i64 0, .int .i64 0, .slice none 0 0, .int .i64 0] 46)
  have B1 := Blk.new (w.alloc (.cells #[.int .i64 z.st, .int .i64 z.rs, .slice Ai z.l.length ci, .int .i64 z.la] 46)) #[.int .i64 0, .int .i64 0, .slice none 0 0, .int .i64 0] 46
  have b0 := ((Below.refl w.heap.size w).alloc (Nat.le_refl _) (.cells #[.int .i64 z.st, .int .i64 z.rs, .slice Ai z.l.length ci, .int .i64 z.la] 46)).alloc (by simp) (.cells #[.int .i64 0, .int .i64 0, .slice none 0 0, .int .i64 0] 46)
  have hs0 : ((w.alloc (.cells #[.int .i64 z.st, .int .i64 z.rs, .slice Ai z.l.length ci, .int .i64 z.la] 46)).alloc (.cells #[.int .i64 0, .int .i64 0, .slice none 0 0, .int .i64 0] 46)).heap.size = w.heap.size + 2 := by simp
  simp only [World.size_alloc] at B1
  replace h := h.below b0
  have hkl := hk.lt
  have hdl := hd.lt
  have hAk : 0 < ks.length → ∀ ad, Ak = some ad → ad.block < w.heap.size := fun hn ad e => by
    obtain ⟨ad', e', hb, _⟩ := hs.cells hn
    cases e.symm.trans e'
    exact hb
  replace hd := hd.under b0
  replace hk := hk.under b0
  replace hs := hs.below b0
  obtain ⟨d0, d1, d2, d3, d4, _⟩ := hd.five
  obtain ⟨k0, _⟩ := hk.one
  go_enter Try.func31, Try.ntmps31
  by_cases hlt : (i : Int) < (ks.length : Int)
  · obtain ⟨ad, u, rfl, hab, hu, hcu⟩ := hs.at_ (show i < ks.length by omega)
    have hkn : keepAt ks i = ks[i]'(by omega) := by simp [keepAt, List.getD_eq_getElem?_getD, List.getElem?_eq_getElem (show i < ks.length by omega)]
    have hux : u = .int .i64 (keepAt ks i) := by
      rw [hkn]
      rw [List.getElem?_map, List.getElem?_eq_getElem (show i < ks.length by omega)] at hu
      exact (Option.some.inj hu).symm
    have hfi : -9223372036854775808 ≤ keepAt ks i ∧ keepAt ks i < 9223372036854775808 := by rw [hkn]; exact hf _ (List.getElem_mem _)
    have hlk := hAk (by omega) ad rfl
    clear hu hkn hAk
    subst hux
    obtain ⟨keep, hkeep⟩ : ∃ x, x = keepAt ks i := ⟨_, rfl⟩
    rw [← hkeep] at hcu hfi ⊢
    clear hkeep
    go_wp2_with fail
    generalize ((w.alloc (.cells #[.int .i64 z.st, .int .i64 z.rs, .slice Ai z.l.length ci, .int .i64 z.la] 46)).alloc (.cells #[.int .i64 0, .int .i64 0, .slice none 0 0, .int .i64 0] 46)) = w0 at *
    clear d0 d1 d2 d3 d4 k0
    have hcap := hs.cap
    have hbig := hs.big
    refine wp_region_held_drew (S := fun w' => But (w.heap.size + 1) w0 w') (by kernel_rfl) (But.refl _ _).drew (fun hHeld => ?_)
    try dsimp only at hHeld
    have bd := (Below.refl w0.heap.size w0).drew
    generalize w0.drew = wd at *
    try simp only [Act.put, List.setIfInBounds_toArray, List.set_cons_zero, List.set_cons_succ]
    refine wpAnyH_take (i := 0) (v := ?_) (by simp only [List.getElem?_toArray, List.getElem?_cons_zero]; rfl) (by kernel_rfl) (by kernel_rfl) (by kernel_rfl) (by intro _ _ _ h; exact h) (Or.inl ⟨by rfl, ?_⟩) hHeld ?_
    rotate_left 1
    · intro wq hSw
      try dsimp only at hSw
      obtain ⟨x0, x1, x2, x3, _⟩ := (B0.but hSw (by omega)).four
      go_simp
      try (with_reducible rfl)
    try simp only [Act.put, List.setIfInBounds_toArray, List.set_cons_zero, List.set_cons_succ]
    refine wpAnyH_take (i := 1) (v := ?_) (by simp only [List.getElem?_toArray, List.getElem?_cons_succ, List.getElem?_cons_zero]; rfl) (by kernel_rfl) (by kernel_rfl) (by kernel_rfl) (by intro _ _ _ h; exact h) (Or.inl ⟨by rfl, ?_⟩) hHeld ?_
    rotate_left 1
    · intro wq hSw
      try dsimp only at hSw
      go_simp
      try (with_reducible rfl)
    try simp only [Act.put, List.setIfInBounds_toArray, List.set_cons_zero, List.set_cons_succ]
    refine wpAnyH_take (i := 2) (v := ?_) (by simp only [List.getElem?_toArray, List.getElem?_cons_succ, List.getElem?_cons_zero]; rfl) (by kernel_rfl) (by kernel_rfl) (by kernel_rfl) (by intro _ _ _ h; exact h) (Or.inl ⟨by rfl, ?_⟩) hHeld ?_
    rotate_left 1
    · intro wq hSw
      try dsimp only at hSw
      obtain ⟨x0, x1, x2, x3, x4, _⟩ := (hd.but hSw (by omega)).five
      go_simp
      try (with_reducible rfl)
    try simp only [Act.put, List.setIfInBounds_toArray, List.set_cons_zero, List.set_cons_succ]
    refine wpAnyH_take (i := 3) (v := ?_) (by simp only [List.getElem?_toArray, List.getElem?_cons_succ, List.getElem?_cons_zero]; rfl) (by kernel_rfl) (by kernel_rfl) (by kernel_rfl) (by intro _ _ _ h; exact h) (Or.inl ⟨by rfl, ?_⟩) hHeld ?_
    rotate_left 1
    · intro wq hSw
      try dsimp only at hSw
      obtain ⟨x0, _⟩ := (hk.but hSw (by omega)).one
      go_simp
      try (with_reducible rfl)
    try simp only [Act.put, List.setIfInBounds_toArray, List.set_cons_zero, List.set_cons_succ]
    refine wpAnyH_take (i := 4) (v := ?_) (by simp only [List.getElem?_toArray, List.getElem?_cons_succ, List.getElem?_cons_zero]; rfl) (by kernel_rfl) (by kernel_rfl) (by kernel_rfl) (by intro _ _ _ h; exact h) (Or.inl ⟨by rfl, ?_⟩) hHeld ?_
    rotate_left 1
    · intro wq hSw
      try dsimp only at hSw
      go_simp
      try (with_reducible rfl)
    try simp only [Act.put, List.setIfInBounds_toArray, List.set_cons_zero, List.set_cons_succ]
    refine wpAnyH_take (i := 5) (v := ?_) (by simp only [List.getElem?_toArray, List.getElem?_cons_succ, List.getElem?_cons_zero]; rfl) (by kernel_rfl) (by kernel_rfl) (by kernel_rfl) (by intro _ _ _ h; exact h) (Or.inl ⟨by rfl, ?_⟩) hHeld ?_
    rotate_left 1
    · intro wq hSw
      try dsimp only at hSw
      go_simp
      try (with_reducible rfl)
    try simp only [Act.put, List.setIfInBounds_toArray, List.set_cons_zero, List.set_cons_succ]
    refine wpAnyH_take (i := 6) (v := ?_) (by simp only [List.getElem?_toArray, List.getElem?_cons_succ, List.getElem?_cons_zero]; rfl) (by kernel_rfl) (by kernel_rfl) (by kernel_rfl) (by intro _ _ _ h; exact h) (Or.inl ⟨by rfl, ?_⟩) hHeld ?_
    rotate_left 1
    · intro wq hSw
      try dsimp only at hSw
      have x0 := (hSw.cell (by rw [add_block]; exact hab) (by rw [add_block]; omega)).trans hcu
      go_simp
      try (with_reducible rfl)
    try simp only [Act.put, List.setIfInBounds_toArray, List.set_cons_zero, List.set_cons_succ]
    refine wpAnyH_ready (rs := [7]) (by kernel_rfl) (by simp) ?_
    refine AllReadyH.cons (by simp only [List.getElem?_toArray, List.getElem?_cons_succ, List.getElem?_cons_zero]; rfl) (fun K hK => ?_) AllReadyH.nil
    have hC := zCrash_any z.st z.rs z.la size keep Ai z.l.length ci z.l wd (h.but hHeld hAi) (by omega) hfi.1 hfi.2
    go_simp
    refine hC.mono ?_
    clear hC
    rintro e w2 ⟨A2, n2, c2, rfl, N2, b2⟩
    go_wp2_with fail
    refine hK.out _ _ (hHeld.call b2) (fun hHeld => ?_)
    clear hK K
    try dsimp only at hHeld
    try simp only [Act.put, List.setIfInBounds_toArray, List.set_cons_zero, List.set_cons_succ]
    refine wpAnyH_ready (rs := [8]) (by kernel_rfl) (by simp) ?_
    refine AllReadyH.cons (by simp only [List.getElem?_toArray, List.getElem?_cons_succ, List.getElem?_cons_zero]; rfl) (fun K hK => ?_) AllReadyH.nil
    have bz : Below w.heap.size w w2 := (b0.trans (bd.mono (by omega))).trans (b2.mono (by have := bd.size; omega))
    have B2 := (B1.below bd (by omega)).under b2
    obtain ⟨r0, r1, r2, r3, g0, g1, g2, g3⟩ := B2.four
    go_simp
    refine hK.out _ _ ((((hHeld.set 0 _).set 1 _).set 2 _).set 3 _) (fun hHeld => ?_)
    clear hK K
    try dsimp only at hHeld
    try simp only [Act.put, List.setIfInBounds_toArray, List.set_cons_zero, List.set_cons_succ]
    refine wpAnyH_done (by kernel_rfl) ?_ _
    go_wp2
    try simp only [Exit.inBlock, Exit.then]
    exact ret_zone (l := (crZ size keep z).l) rfl rfl B2 N2 (by have := bd.size; omega) (by omega) bz
  · have hkn : keepAt ks i = 0 := by simp [keepAt, List.getD_eq_getElem?_getD, List.getElem?_eq_none (show ks.length ≤ i by omega)]
    rw [hkn]
    clear hkn hAk
    go_wp2_with fail
    generalize ((w.alloc (.cells #[.int .i64 z.st, .int .i64 z.rs, .slice Ai z.l.length ci, .int .i64 z.la] 46)).alloc (.cells #[.int .i64 0, .int .i64 0, .slice none 0 0, .int .i64 0] 46)) = w0 at *
    refine (zCrash_any z.st z.rs z.la size 0 Ai z.l.length ci z.l w0 h (by omega) (by omega) (by omega)).mono ?_
    rintro e w2 ⟨A2, n2, c2, rfl, N2, b2⟩
    have bz : Below w.heap.size w w2 := b0.trans (b2.mono (by omega))
    have B2 := B1.under b2
    obtain ⟨r0, r1, r2, r3, g0, g1, g2, g3⟩ := B2.four
    go_wp2
    try simp only [Exit.inBlock, Exit.then]
    exact ret_zone (l := (crZ size 0 z).l) rfl rfl B2 N2 (by omega) (by omega) bz
end Go.Proofs.Ytnjekhnheihooaa
