/-
  Contracts of package dev: reset, finish, close, append, flush (written by gen_dev6.py).
-/
import Derived.Test.YtnjekhnheihooaaDev5
namespace Go.Proofs.Ytnjekhnheihooaa
open Go.RowKit Go.Wag
set_option linter.unusedVariables false

def rsH (z : Zp) : Zp := ⟨resSt z.st z.rs, resRs z.st z.rs, resLa z.st z.rs z.la, resDa z.st z.rs z.l⟩
def rsE (z : Zp) : Int := resEr z.st z.rs
def fiH (z : Zp) : Zp := ⟨finSt z.st, z.rs, z.la, z.l⟩
def fiE (z : Zp) : Int := finEr z.st
def clH (z : Zp) : Zp := ⟨cloSt z.st, z.rs, z.la, z.l⟩
def clE (z : Zp) : Int := cloEr z.st
/-- Append, where so many zones are open. -/
def apNo (op : Nat) (z : Zp) : Bool := !(z.st == 1) && decide (3 ≤ (op : Int))
def apH (size : Int) (op : Nat) (b : List UInt8) (z : Zp) : Zp := if apNo op z then z else ⟨appSt z.st z.rs z.l.length z.la size b.length, z.rs, z.la, appDa z.st z.rs z.l.length z.la size b.length z.l b⟩
def apE (size : Int) (op : Nat) (b : List UInt8) (z : Zp) : Int := if apNo op z then 30 else appErrF z.st z.rs z.l.length z.la size b.length

theorem dreset_any {BB kw g : Nat} {size lf dn : Int} {dw : Bool} {zs : List Zp} {kd N : Int} {Ad : Option Addr} {nd cd : Nat} {b : List UInt8} (w : World) (h : Wk BB kw g w size lf dn dw zs kd N Ad nd cd b) (hsm : Sm zs) :
    Calls Try.prog 42 #[.pointer (some ⟨kw, 0, none⟩)] w (WkPost BB kw w size lf dn dw (chgZs zs N rsH rsE) kd N Ad nd cd b (chgEr zs N rsE)) := by
  go_enter Try.func42, Try.ntmps42
  go_wp2_with fail
  refine (dchange_any 49 #[] rsH rsE w h hsm.1 (fun _ _ => by kernel_rfl) (fun z Ai ci hz hS => (zReset_any z.st z.rs z.la Ai z.l.length ci z.l w hS (by have := hsm.at_ hz; omega)).mono (ZoneErr.zew (z := rsH z) (er := rsE z)))).mono ?_
  rintro e w1 ⟨rfl, h1, b1⟩
  go_wp2
  go_ret
  exact ⟨rfl, h1, b1⟩

theorem dfinish_any {BB kw g : Nat} {size lf dn : Int} {dw : Bool} {zs : List Zp} {kd N : Int} {Ad : Option Addr} {nd cd : Nat} {b : List UInt8} (w : World) (h : Wk BB kw g w size lf dn dw zs kd N Ad nd cd b) (hsm : Sm zs) :
    Calls Try.prog 43 #[.pointer (some ⟨kw, 0, none⟩)] w (WkPost BB kw w size lf dn dw (chgZs zs N fiH fiE) kd N Ad nd cd b (chgEr zs N fiE)) := by
  go_enter Try.func43, Try.ntmps43
  go_wp2_with fail
  refine (dchange_any 50 #[] fiH fiE w h hsm.1 (fun _ _ => by kernel_rfl) (fun z Ai ci hz hS => (zFinish_any z.st z.rs z.la Ai z.l.length ci z.l w hS (by have := hsm.at_ hz; omega)).mono (ZoneErr.zew (z := fiH z) (er := fiE z)))).mono ?_
  rintro e w1 ⟨rfl, h1, b1⟩
  go_wp2
  go_ret
  exact ⟨rfl, h1, b1⟩

theorem dclose_any {BB kw g : Nat} {size lf dn : Int} {dw : Bool} {zs : List Zp} {kd N : Int} {Ad : Option Addr} {nd cd : Nat} {b : List UInt8} (w : World) (h : Wk BB kw g w size lf dn dw zs kd N Ad nd cd b) (hsm : Sm zs) :
    Calls Try.prog 44 #[.pointer (some ⟨kw, 0, none⟩)] w (WkPost BB kw w size lf dn dw (chgZs zs N clH clE) kd N Ad nd cd b (chgEr zs N clE)) := by
  go_enter Try.func44, Try.ntmps44
  go_wp2_with fail
  refine (dchange_any 51 #[] clH clE w h hsm.1 (fun _ _ => by kernel_rfl) (fun z Ai ci hz hS => (zClose_any z.st z.rs z.la Ai z.l.length ci z.l w hS (by have := hsm.at_ hz; omega)).mono (ZoneErr.zew (z := clH z) (er := clE z)))).mono ?_
  rintro e w1 ⟨rfl, h1, b1⟩
  go_wp2
  go_ret
  exact ⟨rfl, h1, b1⟩

set_option maxHeartbeats 2000000 in
theorem dappend1_any (z : Zp) (Ai : Option Addr) (ci kb : Nat) {BB kw g : Nat} {size lf dn : Int} {dw : Bool} {zs : List Zp} {kd N : Int} {Ad : Option Addr} {nd cd : Nat} {b : List UInt8} (w : World) (h : Wk BB kw g w size lf dn dw zs kd N Ad nd cd b) (hsm : Sm zs) (hS : Sl w Ai z.l.length ci (z.l.map v8)) (hzl : z.l.length ≤ 1048576) (hb : Blk w kb #[.pointer (some ⟨kw, 0, none⟩)] 61) (hnd : nd ≤ 10000) (hbl : b.length = nd) :
    Calls Try.prog 47 #[.agg #[.int .i64 z.st, .int .i64 z.rs, .slice Ai z.l.length ci, .int .i64 z.la], .pointer (some ⟨kb, 0, none⟩)] w (ZEW w (apH size (openF zs) b z) (apE size (openF zs) b z)) := by
  obtain ⟨st, rs, la, l⟩ := z
  dsimp only at hS hzl ⊢
  have hAi : 0 < l.length → ∀ ad, Ai = some ad → ad.block ≠ w.heap.size + 1 := fun hn ad e => by
    obtain ⟨ad', e', hb, _⟩ := hS.cells hn
    cases e.symm.trans e'
    omega
  have hAd : 0 < nd → ∀ ad, Ad = some ad → ad.block ≠ w.heap.size + 1 := fun hn ad e => by
    have h1 := h.low hn ad e
    have h2 := h.lt
    omega
  have B0 := (Blk.new w #[.int .i64 st, .int .i64 rs, .slice Ai l.length ci, .int .i64 la] 46).alloc (.cells #[.int .i64 0, .int .i64 0, .slice none 0 0, .int .i64 0] 46)
  have B1 := Blk.new (w.alloc (.cells #[.int .i64 st, .int .i64 rs, .slice Ai l.length ci, .int .i64 la] 46)) #[.int .i64 0, .int .i64 0, .slice none 0 0, .int .i64 0] 46
  have b0 := ((Below.refl w.heap.size w).alloc (Nat.le_refl _) (.cells #[.int .i64 st, .int .i64 rs, .slice Ai l.length ci, .int .i64 la] 46)).alloc (by simp) (.cells #[.int .i64 0, .int .i64 0, .slice none 0 0, .int .i64 0] 46)
  have hs0 : ((w.alloc (.cells #[.int .i64 st, .int .i64 rs, .slice Ai l.length ci, .int .i64 la] 46)).alloc (.cells #[.int .i64 0, .int .i64 0, .slice none 0 0, .int .i64 0] 46)).heap.size = w.heap.size + 2 := by simp
  simp only [World.size_alloc] at B1
  have hkl := hb.lt
  have hwl := h.blk.lt
  replace hS := hS.below b0
  replace h := h.under b0
  replace hb := hb.under b0
  obtain ⟨k0, _⟩ := hb.one
  obtain ⟨p0, p1, p2, p3, p4, p5, p6, p7, _⟩ := h.blk.eight
  replace hbl : Hid (b.length = nd) := hbl
  obtain ⟨HH, hHH⟩ : ∃ x, x = apH size (openF zs) b (Zp.mk st rs la l) := ⟨_, rfl⟩
  obtain ⟨EE, hEE⟩ : ∃ x, x = apE size (openF zs) b (Zp.mk st rs la l) := ⟨_, rfl⟩
  rw [← hHH, ← hEE]
  replace hHH : Hid (HH = apH size (openF zs) b (Zp.mk st rs la l)) := hHH
  replace hEE : Hid (EE = apE size (openF zs) b (Zp.mk st rs la l)) := hEE
  go_enter Try.func47, Try.ntmps47
  by_cases hst : st = 1
  · subst hst
    have hno : Hid (apNo (openF zs) (Zp.mk 1 rs la l) = false) := by show apNo (openF zs) (Zp.mk 1 rs la l) = false; simp [apNo]
    go_wp2_with fail
    generalize ((w.alloc (.cells #[.int .i64 1, .int .i64 rs, .slice Ai l.length ci, .int .i64 la] 46)).alloc (.cells #[.int .i64 0, .int .i64 0, .slice none 0 0, .int .i64 0] 46)) = w1 at *
    clear k0 p0 p1 p2 p3 p4 p5 p6 p7
    have b2 := b0
    refine wp_region_held_drew (S := fun w' => But (w.heap.size + 1) w1 w') (by kernel_rfl) (But.refl _ _).drew (fun hHeld => ?_)
    try dsimp only at hHeld
    have bd := (Below.refl w1.heap.size w1).drew
    generalize w1.drew = wd at *
    try simp only [Act.put, List.setIfInBounds_toArray, List.set_cons_zero, List.set_cons_succ]
    refine wpAnyH_take (i := 0) (v := ?_) (by simp only [List.getElem?_toArray, List.getElem?_cons_zero]; rfl) (by kernel_rfl) (by kernel_rfl) (by kernel_rfl) (by intro _ _ _ h; exact h) (Or.inl ⟨by rfl, ?_⟩) hHeld ?_
    rotate_left 1
    · intro wq hSw
      try dsimp only at hSw
      obtain ⟨x0, x1, x2, x3, _⟩ := (B0.but hSw (by omega)).four
      go_simp
      try (with_reducible rfl)
    try simp only [Act.put, List.setIfInBounds_toArray, List.set_cons_zero, List.set_cons_succ]
    refine wpAnyH_take (i := 1) (v := ?_) (by simp only [List.getElem?_toArray, List.getElem?_cons_succ, List.getElem?_cons_zero]; rfl) (by kernel_rfl) (by kernel_rfl) (by kernel_rfl) (by intro _ _ _ h; exact h) (Or.inl ⟨by rfl, ?_⟩) hHeld ?_
    rotate_left 1
    · intro wq hSw
      try dsimp only at hSw
      obtain ⟨x0, _⟩ := (hb.but hSw (by omega)).one
      go_simp
      try (with_reducible rfl)
    try simp only [Act.put, List.setIfInBounds_toArray, List.set_cons_zero, List.set_cons_succ]
    refine wpAnyH_take (i := 2) (v := ?_) (by simp only [List.getElem?_toArray, List.getElem?_cons_succ, List.getElem?_cons_zero]; rfl) (by kernel_rfl) (by kernel_rfl) (by kernel_rfl) (by intro _ _ _ h; exact h) (Or.inl ⟨by rfl, ?_⟩) hHeld ?_
    rotate_left 1
    · intro wq hSw
      try dsimp only at hSw
      go_simp
      try (with_reducible rfl)
    try simp only [Act.put, List.setIfInBounds_toArray, List.set_cons_zero, List.set_cons_succ]
    refine wpAnyH_take (i := 3) (v := ?_) (by simp only [List.getElem?_toArray, List.getElem?_cons_succ, List.getElem?_cons_zero]; rfl) (by kernel_rfl) (by kernel_rfl) (by kernel_rfl) (by intro _ _ _ h; exact h) (Or.inl ⟨by rfl, ?_⟩) hHeld ?_
    rotate_left 1
    · intro wq hSw
      try dsimp only at hSw
      go_simp
      try (with_reducible rfl)
    try simp only [Act.put, List.setIfInBounds_toArray, List.set_cons_zero, List.set_cons_succ]
    refine wpAnyH_take (i := 4) (v := ?_) (by simp only [List.getElem?_toArray, List.getElem?_cons_succ, List.getElem?_cons_zero]; rfl) (by kernel_rfl) (by kernel_rfl) (by kernel_rfl) (by intro _ _ _ h; exact h) (Or.inl ⟨by rfl, ?_⟩) hHeld ?_
    rotate_left 1
    · intro wq hSw
      try dsimp only at hSw
      go_simp
      try (with_reducible rfl)
    try simp only [Act.put, List.setIfInBounds_toArray, List.set_cons_zero, List.set_cons_succ]
    refine wpAnyH_take (i := 5) (v := ?_) (by simp only [List.getElem?_toArray, List.getElem?_cons_succ, List.getElem?_cons_zero]; rfl) (by kernel_rfl) (by kernel_rfl) (by kernel_rfl) (by intro _ _ _ h; exact h) (Or.inl ⟨by rfl, ?_⟩) hHeld ?_
    rotate_left 1
    · intro wq hSw
      try dsimp only at hSw
      obtain ⟨x0, x1, x2, x3, x4, x5, x6, x7, _⟩ := (h.blk.but hSw (by omega)).eight
      go_simp
      try (with_reducible rfl)
    try simp only [Act.put, List.setIfInBounds_toArray, List.set_cons_zero, List.set_cons_succ]
    refine wpAnyH_take (i := 6) (v := ?_) (by simp only [List.getElem?_toArray, List.getElem?_cons_succ, List.getElem?_cons_zero]; rfl) (by kernel_rfl) (by kernel_rfl) (by kernel_rfl) (by intro _ _ _ h; exact h) (Or.inl ⟨by rfl, ?_⟩) hHeld ?_
    rotate_left 1
    · intro wq hSw
      try dsimp only at hSw
      obtain ⟨x0, _⟩ := (hb.but hSw (by omega)).one
      go_simp
      try (with_reducible rfl)
    try simp only [Act.put, List.setIfInBounds_toArray, List.set_cons_zero, List.set_cons_succ]
    refine wpAnyH_take (i := 7) (v := ?_) (by simp only [List.getElem?_toArray, List.getElem?_cons_succ, List.getElem?_cons_zero]; rfl) (by kernel_rfl) (by kernel_rfl) (by kernel_rfl) (by intro _ _ _ h; exact h) (Or.inl ⟨by rfl, ?_⟩) hHeld ?_
    rotate_left 1
    · intro wq hSw
      try dsimp only at hSw
      go_simp
      try (with_reducible rfl)
    try simp only [Act.put, List.setIfInBounds_toArray, List.set_cons_zero, List.set_cons_succ]
    refine wpAnyH_take (i := 8) (v := ?_) (by simp only [List.getElem?_toArray, List.getElem?_cons_succ, List.getElem?_cons_zero]; rfl) (by kernel_rfl) (by kernel_rfl) (by kernel_rfl) (by intro _ _ _ h; exact h) (Or.inl ⟨by rfl, ?_⟩) hHeld ?_
    rotate_left 1
    · intro wq hSw
      try dsimp only at hSw
      go_simp
      try (with_reducible rfl)
    try simp only [Act.put, List.setIfInBounds_toArray, List.set_cons_zero, List.set_cons_succ]
    refine wpAnyH_take (i := 9) (v := ?_) (by simp only [List.getElem?_toArray, List.getElem?_cons_succ, List.getElem?_cons_zero]; rfl) (by kernel_rfl) (by kernel_rfl) (by kernel_rfl) (by intro _ _ _ h; exact h) (Or.inl ⟨by rfl, ?_⟩) hHeld ?_
    rotate_left 1
    · intro wq hSw
      try dsimp only at hSw
      go_simp
      try (with_reducible rfl)
    try simp only [Act.put, List.setIfInBounds_toArray, List.set_cons_zero, List.set_cons_succ]
    refine wpAnyH_take (i := 10) (v := ?_) (by simp only [List.getElem?_toArray, List.getElem?_cons_succ, List.getElem?_cons_zero]; rfl) (by kernel_rfl) (by kernel_rfl) (by kernel_rfl) (by intro _ _ _ h; exact h) (Or.inl ⟨by rfl, ?_⟩) hHeld ?_
    rotate_left 1
    · intro wq hSw
      try dsimp only at hSw
      obtain ⟨x0, x1, x2, x3, x4, x5, x6, x7, _⟩ := (h.blk.but hSw (by omega)).eight
      go_simp
      try (with_reducible rfl)
    try simp only [Act.put, List.setIfInBounds_toArray, List.set_cons_zero, List.set_cons_succ]
    refine wpAnyH_ready (rs := [11]) (by kernel_rfl) (by simp) ?_
    refine AllReadyH.cons (by simp only [List.getElem?_toArray, List.getElem?_cons_succ, List.getElem?_cons_zero]; rfl) (fun K hK => ?_) AllReadyH.nil
    have hC := zAppend_any 1 rs la size Ad nd cd b Ai l.length ci l wd (hS.but hHeld hAi) (h.sl.but hHeld hAd) (by omega) (by omega)
    go_simp
    refine hC.mono ?_
    clear hC
    rintro e w2 ⟨A2, n2, c2, rfl, N2, b3⟩
    go_wp2_with fail
    refine hK.out _ _ (hHeld.call b3) (fun hHeld => ?_)
    clear hK K
    try dsimp only at hHeld
    try simp only [Act.put, List.setIfInBounds_toArray, List.set_cons_zero, List.set_cons_succ]
    refine wpAnyH_take (i := 12) (v := ?_) (by simp only [List.getElem?_toArray, List.getElem?_cons_succ, List.getElem?_cons_zero]; rfl) (by kernel_rfl) (by kernel_rfl) (by kernel_rfl) (by intro _ _ _ h; exact h) (Or.inl ⟨by rfl, ?_⟩) hHeld ?_
    rotate_left 1
    · intro wq hSw
      try dsimp only at hSw
      go_simp
      try (with_reducible rfl)
    try simp only [Act.put, List.setIfInBounds_toArray, List.set_cons_zero, List.set_cons_succ]
    refine wpAnyH_take (i := 13) (v := ?_) (by simp only [List.getElem?_toArray, List.getElem?_cons_succ, List.getElem?_cons_zero]; rfl) (by kernel_rfl) (by kernel_rfl) (by kernel_rfl) (by intro _ _ _ h; exact h) (Or.inl ⟨by rfl, ?_⟩) hHeld ?_
    rotate_left 1
    · intro wq hSw
      try dsimp only at hSw
      go_simp
      try (with_reducible rfl)
    try simp only [Act.put, List.setIfInBounds_toArray, List.set_cons_zero, List.set_cons_succ]
    refine wpAnyH_ready (rs := [14]) (by kernel_rfl) (by simp) ?_
    refine AllReadyH.cons (by simp only [List.getElem?_toArray, List.getElem?_cons_succ, List.getElem?_cons_zero]; rfl) (fun K hK => ?_) AllReadyH.nil
    have bz : Below w.heap.size w w2 := (b2.trans (bd.mono (by omega))).trans (b3.mono (by have := bd.size; omega))
    have B2 := (B1.below bd (by omega)).under b3
    obtain ⟨r0, r1, r2, r3, g0, g1, g2, g3⟩ := B2.four
    go_simp
    refine hK.out _ _ ((((hHeld.set 0 _).set 1 _).set 2 _).set 3 _) (fun hHeld => ?_)
    clear hK K
    try dsimp only at hHeld
    try simp only [Act.put, List.setIfInBounds_toArray, List.set_cons_zero, List.set_cons_succ]
    refine wpAnyH_take (i := 15) (v := ?_) (by simp only [List.getElem?_toArray, List.getElem?_cons_succ, List.getElem?_cons_zero]; rfl) (by kernel_rfl) (by kernel_rfl) (by kernel_rfl) (by intro _ _ _ h; exact h) (Or.inl ⟨by rfl, ?_⟩) hHeld ?_
    rotate_left 1
    · intro wq hSw
      try dsimp only at hSw
      go_simp
      try (with_reducible rfl)
    try simp only [Act.put, List.setIfInBounds_toArray, List.set_cons_zero, List.set_cons_succ]
    refine wpAnyH_done (by kernel_rfl) ?_ _
    go_wp2
    try simp only [Exit.inBlock, Exit.then]
    have hH2 : HH = ⟨appSt 1 rs l.length la size nd, rs, la, appDa 1 rs l.length la size nd l b⟩ := by rw [hHH.out, apH, hno.out, hbl.out]; rfl
    have hE2 : EE = appErrF 1 rs l.length la size nd := by rw [hEE.out, apE, hno.out, hbl.out]; rfl
    rw [hH2, hE2]
    exact ret_zew (⟨appSt 1 rs l.length la size nd, rs, la, appDa 1 rs l.length la size nd l b⟩ : Zp) rfl rfl rfl B2 N2 (by have := bd.size; omega) (by omega) bz
  · have hstb : (st == 1) = false := by simp [hst]
    go_wp2_with fail
    generalize ((w.alloc (.cells #[.int .i64 st, .int .i64 rs, .slice Ai l.length ci, .int .i64 la] 46)).alloc (.cells #[.int .i64 0, .int .i64 0, .slice none 0 0, .int .i64 0] 46)) = w0 at *
    clear k0 p0 p1 p2 p3 p4 p5 p6 p7
    refine (dOpen_any size lf dn dw (some ⟨g, 0, none⟩) zs.length zs.length zs w0 (h.zf.toZs hsm.1)).mono ?_
    rintro e w1 ⟨rfl, b1⟩
    have b2 := b0.trans (b1.mono (by omega))
    have hz1 := b1.size
    replace B0 := B0.under b1
    replace B1 := B1.under b1
    replace hS := hS.below b1
    replace h := h.under b1
    replace hb := hb.under b1
    by_cases hop : (3 : Int) ≤ (openF zs : Int)
    · have hno : Hid (apNo (openF zs) (Zp.mk st rs la l) = true) := by show apNo (openF zs) (Zp.mk st rs la l) = true; simp only [apNo, hstb]; simp; omega
      obtain ⟨x0, x1, x2, x3, _⟩ := B0.four
      obtain ⟨r0, r1, r2, r3, g0, g1, g2, g3⟩ := B1.four
      have hH2 : Hid (HH = (Zp.mk st rs la l)) := by show HH = (Zp.mk st rs la l); rw [hHH.out, apH, hno.out]; rfl
      have hE2 : Hid (EE = 30) := by show EE = 30; rw [hEE.out, apE, hno.out]; rfl
      clear hno hHH hEE
      go_wp2
      try simp only [Exit.inBlock, Exit.then]
      rw [hH2.out, hE2.out]
      exact ret_blk2 rfl rfl ((((B1.set 0 _).set 1 _).set 2 _).set 3 _) Try.underlying46 (by kernel_rfl) rfl ⟨Ai, ci, rfl, fun h => absurd h (by decide), (((b2.setCell (by simp) _).setCell (by simp) _).setCell (by simp) _).setCell (by simp) _⟩
    · have hno : Hid (apNo (openF zs) (Zp.mk st rs la l) = false) := by show apNo (openF zs) (Zp.mk st rs la l) = false; simp only [apNo]; simp; omega
      go_wp2_with fail
      refine wp_region_held_drew (S := fun w' => But (w.heap.size + 1) w1 w') (by kernel_rfl) (But.refl _ _).drew (fun hHeld => ?_)
      try dsimp only at hHeld
      have bd := (Below.refl w1.heap.size w1).drew
      generalize w1.drew = wd at *
      try simp only [Act.put, List.setIfInBounds_toArray, List.set_cons_zero, List.set_cons_succ]
      refine wpAnyH_take (i := 0) (v := ?_) (by simp only [List.getElem?_toArray, List.getElem?_cons_zero]; rfl) (by kernel_rfl) (by kernel_rfl) (by kernel_rfl) (by intro _ _ _ h; exact h) (Or.inl ⟨by rfl, ?_⟩) hHeld ?_
      rotate_left 1
      · intro wq hSw
        try dsimp only at hSw
        obtain ⟨x0, x1, x2, x3, _⟩ := (B0.but hSw (by omega)).four
        go_simp
        try (with_reducible rfl)
      try simp only [Act.put, List.setIfInBounds_toArray, List.set_cons_zero, List.set_cons_succ]
      refine wpAnyH_take (i := 1) (v := ?_) (by simp only [List.getElem?_toArray, List.getElem?_cons_succ, List.getElem?_cons_zero]; rfl) (by kernel_rfl) (by kernel_rfl) (by kernel_rfl) (by intro _ _ _ h; exact h) (Or.inl ⟨by rfl, ?_⟩) hHeld ?_
      rotate_left 1
      · intro wq hSw
        try dsimp only at hSw
        obtain ⟨x0, _⟩ := (hb.but hSw (by omega)).one
        go_simp
        try (with_reducible rfl)
      try simp only [Act.put, List.setIfInBounds_toArray, List.set_cons_zero, List.set_cons_succ]
      refine wpAnyH_take (i := 2) (v := ?_) (by simp only [List.getElem?_toArray, List.getElem?_cons_succ, List.getElem?_cons_zero]; rfl) (by kernel_rfl) (by kernel_rfl) (by kernel_rfl) (by intro _ _ _ h; exact h) (Or.inl ⟨by rfl, ?_⟩) hHeld ?_
      rotate_left 1
      · intro wq hSw
        try dsimp only at hSw
        go_simp
        try (with_reducible rfl)
      try simp only [Act.put, List.setIfInBounds_toArray, List.set_cons_zero, List.set_cons_succ]
      refine wpAnyH_take (i := 3) (v := ?_) (by simp only [List.getElem?_toArray, List.getElem?_cons_succ, List.getElem?_cons_zero]; rfl) (by kernel_rfl) (by kernel_rfl) (by kernel_rfl) (by intro _ _ _ h; exact h) (Or.inl ⟨by rfl, ?_⟩) hHeld ?_
      rotate_left 1
      · intro wq hSw
        try dsimp only at hSw
        go_simp
        try (with_reducible rfl)
      try simp only [Act.put, List.setIfInBounds_toArray, List.set_cons_zero, List.set_cons_succ]
      refine wpAnyH_take (i := 4) (v := ?_) (by simp only [List.getElem?_toArray, List.getElem?_cons_succ, List.getElem?_cons_zero]; rfl) (by kernel_rfl) (by kernel_rfl) (by kernel_rfl) (by intro _ _ _ h; exact h) (Or.inl ⟨by rfl, ?_⟩) hHeld ?_
      rotate_left 1
      · intro wq hSw
        try dsimp only at hSw
        go_simp
        try (with_reducible rfl)
      try simp only [Act.put, List.setIfInBounds_toArray, List.set_cons_zero, List.set_cons_succ]
      refine wpAnyH_take (i := 5) (v := ?_) (by simp only [List.getElem?_toArray, List.getElem?_cons_succ, List.getElem?_cons_zero]; rfl) (by kernel_rfl) (by kernel_rfl) (by kernel_rfl) (by intro _ _ _ h; exact h) (Or.inl ⟨by rfl, ?_⟩) hHeld ?_
      rotate_left 1
      · intro wq hSw
        try dsimp only at hSw
        obtain ⟨x0, x1, x2, x3, x4, x5, x6, x7, _⟩ := (h.blk.but hSw (by omega)).eight
        go_simp
        try (with_reducible rfl)
      try simp only [Act.put, List.setIfInBounds_toArray, List.set_cons_zero, List.set_cons_succ]
      refine wpAnyH_take (i := 6) (v := ?_) (by simp only [List.getElem?_toArray, List.getElem?_cons_succ, List.getElem?_cons_zero]; rfl) (by kernel_rfl) (by kernel_rfl) (by kernel_rfl) (by intro _ _ _ h; exact h) (Or.inl ⟨by rfl, ?_⟩) hHeld ?_
      rotate_left 1
      · intro wq hSw
        try dsimp only at hSw
        obtain ⟨x0, _⟩ := (hb.but hSw (by omega)).one
        go_simp
        try (with_reducible rfl)
      try simp only [Act.put, List.setIfInBounds_toArray, List.set_cons_zero, List.set_cons_succ]
      refine wpAnyH_take (i := 7) (v := ?_) (by simp only [List.getElem?_toArray, List.getElem?_cons_succ, List.getElem?_cons_zero]; rfl) (by kernel_rfl) (by kernel_rfl) (by kernel_rfl) (by intro _ _ _ h; exact h) (Or.inl ⟨by rfl, ?_⟩) hHeld ?_
      rotate_left 1
      · intro wq hSw
        try dsimp only at hSw
        go_simp
        try (with_reducible rfl)
      try simp only [Act.put, List.setIfInBounds_toArray, List.set_cons_zero, List.set_cons_succ]
      refine wpAnyH_take (i := 8) (v := ?_) (by simp only [List.getElem?_toArray, List.getElem?_cons_succ, List.getElem?_cons_zero]; rfl) (by kernel_rfl) (by kernel_rfl) (by kernel_rfl) (by intro _ _ _ h; exact h) (Or.inl ⟨by rfl, ?_⟩) hHeld ?_
      rotate_left 1
      · intro wq hSw
        try dsimp only at hSw
        go_simp
        try (with_reducible rfl)
      try simp only [Act.put, List.setIfInBounds_toArray, List.set_cons_zero, List.set_cons_succ]
      refine wpAnyH_take (i := 9) (v := ?_) (by simp only [List.getElem?_toArray, List.getElem?_cons_succ, List.getElem?_cons_zero]; rfl) (by kernel_rfl) (by kernel_rfl) (by kernel_rfl) (by intro _ _ _ h; exact h) (Or.inl ⟨by rfl, ?_⟩) hHeld ?_
      rotate_left 1
      · intro wq hSw
        try dsimp only at hSw
        go_simp
        try (with_reducible rfl)
      try simp only [Act.put, List.setIfInBounds_toArray, List.set_cons_zero, List.set_cons_succ]
      refine wpAnyH_take (i := 10) (v := ?_) (by simp only [List.getElem?_toArray, List.getElem?_cons_succ, List.getElem?_cons_zero]; rfl) (by kernel_rfl) (by kernel_rfl) (by kernel_rfl) (by intro _ _ _ h; exact h) (Or.inl ⟨by rfl, ?_⟩) hHeld ?_
      rotate_left 1
      · intro wq hSw
        try dsimp only at hSw
        obtain ⟨x0, x1, x2, x3, x4, x5, x6, x7, _⟩ := (h.blk.but hSw (by omega)).eight
        go_simp
        try (with_reducible rfl)
      try simp only [Act.put, List.setIfInBounds_toArray, List.set_cons_zero, List.set_cons_succ]
      refine wpAnyH_ready (rs := [11]) (by kernel_rfl) (by simp) ?_
      refine AllReadyH.cons (by simp only [List.getElem?_toArray, List.getElem?_cons_succ, List.getElem?_cons_zero]; rfl) (fun K hK => ?_) AllReadyH.nil
      have hC := zAppend_any st rs la size Ad nd cd b Ai l.length ci l wd (hS.but hHeld hAi) (h.sl.but hHeld hAd) (by omega) (by omega)
      go_simp
      refine hC.mono ?_
      clear hC
      rintro e w2 ⟨A2, n2, c2, rfl, N2, b3⟩
      go_wp2_with fail
      refine hK.out _ _ (hHeld.call b3) (fun hHeld => ?_)
      clear hK K
      try dsimp only at hHeld
      try simp only [Act.put, List.setIfInBounds_toArray, List.set_cons_zero, List.set_cons_succ]
      refine wpAnyH_take (i := 12) (v := ?_) (by simp only [List.getElem?_toArray, List.getElem?_cons_succ, List.getElem?_cons_zero]; rfl) (by kernel_rfl) (by kernel_rfl) (by kernel_rfl) (by intro _ _ _ h; exact h) (Or.inl ⟨by rfl, ?_⟩) hHeld ?_
      rotate_left 1
      · intro wq hSw
        try dsimp only at hSw
        go_simp
        try (with_reducible rfl)
      try simp only [Act.put, List.setIfInBounds_toArray, List.set_cons_zero, List.set_cons_succ]
      refine wpAnyH_take (i := 13) (v := ?_) (by simp only [List.getElem?_toArray, List.getElem?_cons_succ, List.getElem?_cons_zero]; rfl) (by kernel_rfl) (by kernel_rfl) (by kernel_rfl) (by intro _ _ _ h; exact h) (Or.inl ⟨by rfl, ?_⟩) hHeld ?_
      rotate_left 1
      · intro wq hSw
        try dsimp only at hSw
        go_simp
        try (with_reducible rfl)
      try simp only [Act.put, List.setIfInBounds_toArray, List.set_cons_zero, List.set_cons_succ]
      refine wpAnyH_ready (rs := [14]) (by kernel_rfl) (by simp) ?_
      refine AllReadyH.cons (by simp only [List.getElem?_toArray, List.getElem?_cons_succ, List.getElem?_cons_zero]; rfl) (fun K hK => ?_) AllReadyH.nil
      have bz : Below w.heap.size w w2 := (b2.trans (bd.mono (by omega))).trans (b3.mono (by have := bd.size; omega))
      have B2 := (B1.below bd (by omega)).under b3
      obtain ⟨r0, r1, r2, r3, g0, g1, g2, g3⟩ := B2.four
      go_simp
      refine hK.out _ _ ((((hHeld.set 0 _).set 1 _).set 2 _).set 3 _) (fun hHeld => ?_)
      clear hK K
      try dsimp only at hHeld
      try simp only [Act.put, List.setIfInBounds_toArray, List.set_cons_zero, List.set_cons_succ]
      refine wpAnyH_take (i := 15) (v := ?_) (by simp only [List.getElem?_toArray, List.getElem?_cons_succ, List.getElem?_cons_zero]; rfl) (by kernel_rfl) (by kernel_rfl) (by kernel_rfl) (by intro _ _ _ h; exact h) (Or.inl ⟨by rfl, ?_⟩) hHeld ?_
      rotate_left 1
      · intro wq hSw
        try dsimp only at hSw
        go_simp
        try (with_reducible rfl)
      try simp only [Act.put, List.setIfInBounds_toArray, List.set_cons_zero, List.set_cons_succ]
      refine wpAnyH_done (by kernel_rfl) ?_ _
      go_wp2
      try simp only [Exit.inBlock, Exit.then]
      have hH2 : HH = ⟨appSt st rs l.length la size nd, rs, la, appDa st rs l.length la size nd l b⟩ := by rw [hHH.out, apH, hno.out, hbl.out]; rfl
      have hE2 : EE = appErrF st rs l.length la size nd := by rw [hEE.out, apE, hno.out, hbl.out]; rfl
      rw [hH2, hE2]
      exact ret_zew (⟨appSt st rs l.length la size nd, rs, la, appDa st rs l.length la size nd l b⟩ : Zp) rfl rfl rfl B2 N2 (by have := bd.size; omega) (by omega) bz


theorem dappend_any {BB kw g : Nat} {size lf dn : Int} {dw : Bool} {zs : List Zp} {kd N : Int} {Ad : Option Addr} {nd cd : Nat} {b : List UInt8} (w : World) (h : Wk BB kw g w size lf dn dw zs kd N Ad nd cd b) (hsm : Sm zs) (hnd : nd ≤ 10000) :
    Calls Try.prog 41 #[.pointer (some ⟨kw, 0, none⟩)] w (WkPost BB kw w size lf dn dw (chgZs zs N (apH size (openF zs) b) (apE size (openF zs) b)) kd N Ad nd cd b (chgEr zs N (apE size (openF zs) b))) := by
  have B0 := Blk.new w #[.pointer (some ⟨kw, 0, none⟩)] 61
  have hlt := h.lt
  have b0 := (Below.refl w.heap.size w).alloc (Nat.le_refl _) (.cells #[.pointer (some ⟨kw, 0, none⟩)] 61)
  have h1 := h.alloc (.cells #[.pointer (some ⟨kw, 0, none⟩)] 61)
  have hbl : Hid (b.length = nd) := h.sl.len8
  go_enter Try.func41, Try.ntmps41
  go_wp2_with fail
  generalize w.alloc (.cells #[.pointer (some ⟨kw, 0, none⟩)] 61) = w0 at *
  refine (dchange_any 47 #[.pointer (some ⟨w.heap.size, 0, none⟩)] (apH size (openF zs) b) (apE size (openF zs) b) w0 h1 hsm.1 (fun _ _ => by kernel_rfl) (fun z Ai ci hz hS => dappend1_any z Ai ci w.heap.size w0 h1 hsm hS (hsm.at_ hz) B0 hnd hbl.out)).mono ?_
  rintro e w1 ⟨rfl, h2, b1⟩
  go_wp2
  go_ret
  exact ⟨rfl, h2, (b0.mono (Nat.le_of_lt hlt)).trans b1⟩

theorem mapIdx_fs (zs : List Zp) : zs.mapIdx (fun _ z => fsZ z) = zs.map fsZ := by
  apply List.ext_getElem?
  intro i
  rw [List.getElem?_mapIdx, List.getElem?_map]

set_option maxHeartbeats 1000000 in
theorem dflush_any {BB kw g : Nat} {size lf dn : Int} {dw : Bool} {zs : List Zp} {kd N : Int} {Ad : Option Addr} {nd cd : Nat} {b : List UInt8} (w : World) (h : Wk BB kw g w size lf dn dw zs kd N Ad nd cd b) (hsm : Sm zs) :
    Calls Try.prog 45 #[.pointer (some ⟨kw, 0, none⟩)] w (WkPost BB kw w size lf dn dw (zs.map fsZ) kd N Ad nd cd b 0) := by
  obtain ⟨p0, p1, p2, p3, p4, p5, p6, p7, _⟩ := h.blk.eight
  go_enter Try.func45, Try.ntmps45
  go_wp2_with fail
  refine (deach_any 52 #[] (fun _ z => fsZ z) size lf dn dw (some ⟨g, 0, none⟩) zs.length zs.length zs w (h.zf.toZs hsm.1) hsm (fun _ _ _ => by kernel_rfl) (fun i z Ai ci w' hz _ hS => dflush1_any i z Ai ci w' hS (by have := hsm.at_ hz; omega))).mono ?_
  rw [mapIdx_fs]
  rintro e w1 ⟨g1, rfl, Z1, b1⟩
  have h1 := h.under b1
  have hkl := h.blk.lt
  have hlt := h.lt
  have hls : Hid (zs.length = (zs.map fsZ).length) := (List.length_map _).symm
  obtain ⟨q0, q1, q2, q3, q4, q5, q6, q7, f0, f1, f2, f3, f4, f5, f6, f7⟩ := h1.blk.eight
  go_wp2
  go_ret
  have b2 : Below BB w w1 := b1.mono (Nat.le_of_lt hlt)
  have hk := h.at_
  refine ⟨rfl, ⟨g1, ?_, ?_, ?_, h.low, h.at_⟩, ((((b2.setCell hk _).setCell hk _).setCell hk _).setCell hk _).setCell hk _⟩
  · rw [← hls.out]
    exact ((((h1.blk.set 0 _).set 1 _).set 2 _).set 3 _).set 4 _
  · have Z2 : Zf (fun b => BB ≤ b ∧ b ≠ kw) 46 w1 g1 (zs.map fsZ) := Z1.toZf (fun b _ hb => ⟨by omega, by omega⟩)
    exact ((((Z2.far (a := ⟨kw, 0, none⟩) (fun h => h.2 rfl) _).far (a := ⟨kw, 1, none⟩) (fun h => h.2 rfl) _).far (a := ⟨kw, 2, none⟩) (fun h => h.2 rfl) _).far (a := ⟨kw, 3, none⟩) (fun h => h.2 rfl) _).far (a := ⟨kw, 4, none⟩) (fun h => h.2 rfl) _
  · have hl : ∀ i : Nat, 0 < nd → ∀ ad, Ad = some ad → ad.block ≠ (⟨kw, i, none⟩ : Addr).block := fun i hn ad e hh => by
      have h5 := h.low hn ad e
      have h6 : ad.block = kw := hh
      omega
    exact ((((h1.sl.farz (hl 0) _).farz (hl 1) _).farz (hl 2) _).farz (hl 3) _).farz (hl 4) _
end Go.Proofs.Ytnjekhnheihooaa
