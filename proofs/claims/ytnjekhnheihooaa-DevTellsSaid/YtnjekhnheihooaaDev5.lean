/-
  Contracts of package dev: a command's work: change, reset, finish, close, append, flush (written by gen_dev5.py).
-/
import Derived.Test.YtnjekhnheihooaaDev4
namespace Go.Proofs.Ytnjekhnheihooaa
open Go.RowKit Go.Wag
set_option linter.unusedVariables false

/-- A command's work in block kw: the device that it is done with, in memory of its own (blocks from BB on, not kw), and the command, whose bytes lie below BB. -/
structure Wk (BB kw g : Nat) (w : World) (size lf dn : Int) (dw : Bool) (zs : List Zp) (kd N : Int) (Ad : Option Addr) (nd cd : Nat) (b : List UInt8) : Prop where
  blk : Blk w kw #[.int .i64 size, .slice (some ⟨g, 0, none⟩) zs.length zs.length, .int .i64 lf, .bool dw, .int .i64 dn, .int .i64 kd, .int .i64 N, .slice Ad nd cd] 63
  zf : Zf (fun b => BB ≤ b ∧ b ≠ kw) 46 w g zs
  sl : Sl w Ad nd cd (b.map v8)
  low : 0 < nd → ∀ ad, Ad = some ad → ad.block < BB
  at_ : BB ≤ kw
theorem Wk.under {BB kw : Nat} {w : World} {size lf dn : Int} {dw : Bool} {zs : List Zp} {kd N : Int} {Ad : Option Addr} {nd cd : Nat} {b : List UInt8} {g : Nat} {w' : World} (h : Wk BB kw g w size lf dn dw zs kd N Ad nd cd b) (hb : Below w.heap.size w w') : Wk BB kw g w' size lf dn dw zs kd N Ad nd cd b :=
  ⟨h.blk.under hb, h.zf.under hb, h.sl.below hb, h.low, h.at_⟩
theorem Wk.alloc {BB kw : Nat} {w : World} {size lf dn : Int} {dw : Bool} {zs : List Zp} {kd N : Int} {Ad : Option Addr} {nd cd : Nat} {b : List UInt8} {g : Nat} (h : Wk BB kw g w size lf dn dw zs kd N Ad nd cd b) (o : Obj) : Wk BB kw g (w.alloc o) size lf dn dw zs kd N Ad nd cd b := h.under ((Below.refl _ _).alloc (Nat.le_refl _) o)
theorem Wk.lt {BB kw : Nat} {w : World} {size lf dn : Int} {dw : Bool} {zs : List Zp} {kd N : Int} {Ad : Option Addr} {nd cd : Nat} {b : List UInt8} {g : Nat} (h : Wk BB kw g w size lf dn dw zs kd N Ad nd cd b) : BB < w.heap.size := Nat.lt_of_le_of_lt h.at_ h.blk.lt
/-- The work behind a call, and its error. -/
def WkPost (BB kw : Nat) (w : World) (size lf dn : Int) (dw : Bool) (zs : List Zp) (kd N : Int) (Ad : Option Addr) (nd cd : Nat) (b : List UInt8) (er : Int) (e : Ending) (w' : World) : Prop :=
  e = .returned (.int .i64 er) ∧ (∃ g, Wk BB kw g w' size lf dn dw zs kd N Ad nd cd b) ∧ Below BB w w'
theorem Wk.post {BB kw : Nat} {w : World} {size lf dn : Int} {dw : Bool} {zs : List Zp} {kd N : Int} {Ad : Option Addr} {nd cd : Nat} {b : List UInt8} {g : Nat} {w' : World} (er : Int) (h : Wk BB kw g w' size lf dn dw zs kd N Ad nd cd b) (hb : Below BB w w') : WkPost BB kw w size lf dn dw zs kd N Ad nd cd b er (.returned (.int .i64 er)) w' := ⟨rfl, ⟨g, h⟩, hb⟩

/-- What a command of a zone makes of the zones, and its error. -/
def chgZs (zs : List Zp) (N : Int) (H : Zp → Zp) (E : Zp → Int) : List Zp := if 0 ≤ N ∧ N < zs.length then (zs[N.toNat]?).elim zs (fun z => if E z = 0 then zs.set N.toNat (H z) else zs) else zs
def chgEr (zs : List Zp) (N : Int) (E : Zp → Int) : Int := if 0 ≤ N ∧ N < zs.length then (zs[N.toNat]?).elim 1 E else 1
theorem chg_no {zs : List Zp} {N : Int} (H : Zp → Zp) (E : Zp → Int) (h : ¬ (0 ≤ N ∧ N < zs.length)) : chgZs zs N H E = zs ∧ chgEr zs N E = 1 := by simp [chgZs, chgEr, h]
theorem chg_yes {zs : List Zp} {N : Int} {z : Zp} (H : Zp → Zp) (E : Zp → Int) (h : 0 ≤ N ∧ N < zs.length) (hz : zs[N.toNat]? = some z) : chgZs zs N H E = (if E z = 0 then zs.set N.toNat (H z) else zs) ∧ chgEr zs N E = E z :=
  ⟨by rw [chgZs, if_pos h, hz]; rfl, by rw [chgEr, if_pos h, hz]; rfl⟩

/-- A zone and an error beside it; without an error the zone is in memory of its own. -/
def ZEW (w : World) (z : Zp) (er : Int) (e : Ending) (w' : World) : Prop :=
  ∃ A c, e = .returned (.tuple #[.agg #[.int .i64 z.st, .int .i64 z.rs, .slice A z.l.length c, .int .i64 z.la], .int .i64 er]) ∧ (er = 0 → Nw 5 w w' A z.l.length c (z.l.map v8)) ∧ Below w.heap.size w w'
theorem ZoneErr.zew {w : World} {z : Zp} {er : Int} (e : Ending) (w' : World) (h : ZoneErr w z.st z.rs z.l z.la er e w') : ZEW w z er e w' := by
  obtain ⟨A, n, c, rfl, hN, hb⟩ := h
  obtain rfl : z.l.length = n := hN.sl.len8
  exact ⟨A, c, rfl, fun _ => hN, hb⟩

theorem ret_zew {fn : Func} {tmps : Array Value} {p u : Tmp} {base kr : Nat} {w w6 : World} {er : Int} {a b c d : Value} {A : Option Addr} {n m : Nat} (z : Zp) (hr : fn.results = #[.cell p 46, .tmp u]) (hp : tmps.getD p undef = .pointer (some ⟨kr, 0, none⟩))
    (hv : tmps.getD u undef = .int .i64 er) (hB : Blk w6 kr #[a, b, c, d] 46) (hO : w6.ownsRow base 5 1 (.slice A n m) n (z.l.map v8)) (hk : kr < base) (hw : w.heap.size ≤ kr) (hb : Below w.heap.size w w6) :
    bodyPost Try.prog fn (ZEW w z er) .ret ⟨tmps, []⟩ ((((w6.setCell ⟨kr, 0, none⟩ (.int .i64 z.st)).setCell ⟨kr, 1, none⟩ (.int .i64 z.rs)).setCell ⟨kr, 2, none⟩ (.slice A n m)).setCell ⟨kr, 3, none⟩ (.int .i64 z.la)) := by
  obtain ⟨h1, h2, h3⟩ := zone_stored (st := z.st) (rs := z.rs) (la := z.la) hB hO hk hw hb
  exact ret_blk2 hr hp h1 Try.underlying46 (by kernel_rfl) hv (ZoneErr.zew _ _ (ZoneErr.mk h2 h3))

set_option maxHeartbeats 2000000 in
theorem dchange_any (f : FuncId) (cap : Array Value) (H : Zp → Zp) (E : Zp → Int) {BB kw g : Nat} {size lf dn : Int} {dw : Bool} {zs : List Zp} {kd N : Int} {Ad : Option Addr} {nd cd : Nat} {b : List UInt8} (w : World) (h : Wk BB kw g w size lf dn dw zs kd N Ad nd cd b) (hn : zs.length ≤ 100)
    (hent : ∀ u w, (callFunc f (#[u] ++ cap)).run Try.prog w = .ok (.enter f (#[u] ++ cap)) w)
    (hf : ∀ z Ai ci, zs[N.toNat]? = some z → Sl w Ai z.l.length ci (z.l.map v8) → Calls Try.prog f (#[.agg #[.int .i64 z.st, .int .i64 z.rs, .slice Ai z.l.length ci, .int .i64 z.la]] ++ cap) w (ZEW w (H z) (E z))) :
    Calls Try.prog 46 #[.pointer (some ⟨kw, 0, none⟩), .func (.func f) #[] cap] w (WkPost BB kw w size lf dn dw (chgZs zs N H E) kd N Ad nd cd b (chgEr zs N E)) := by
  obtain ⟨p0, p1, p2, p3, p4, p5, p6, p7, _⟩ := h.blk.eight
  go_enter Try.func46, Try.ntmps46
  by_cases hN0 : N < 0
  · have e0 : Hid _ := chg_no (zs := zs) (N := N) H E (by omega)
    go_wp2
    go_ret
    rw [e0.out.1, e0.out.2]
    exact h.post 1 (Below.refl _ _)
  by_cases hN1 : (zs.length : Int) ≤ N
  · have e0 : Hid _ := chg_no (zs := zs) (N := N) H E (by omega)
    go_wp2
    go_ret
    rw [e0.out.1, e0.out.2]
    exact h.post 1 (Below.refl _ _)
  have hNl : N.toNat < zs.length := by omega
  have hZ := (h.zf.toZs hn)
  obtain ⟨gb, o, z, Ai, ci, hge, hF, hg, hz, c0, c1, c2, c3, hS, hA⟩ := hZ.at_ hNl
  obtain ⟨rfl, rfl⟩ : g = gb ∧ 0 = o := by
    cases hge
    exact ⟨rfl, rfl⟩
  clear hge
  rw [Nat.zero_add] at c0 c1 c2 c3
  have e0 : Hid _ := chg_yes (zs := zs) (N := N) H E (by omega) hz
  go_wp2_with fail
  have hC := hf z Ai ci hz hS
  refine hC.mono ?_
  clear hC
  rintro e w1 ⟨A1, c1', rfl, N1, b1⟩
  replace N1 : Hid _ := N1
  have h1 := h.under b1
  have hB1 := b1.size
  have hkw := h.blk.lt
  have bb : Below BB w (w1.alloc (.cells #[.int .i64 (H z).st, .int .i64 (H z).rs, .slice A1 (H z).l.length c1', .int .i64 (H z).la] 46)) := ((b1.mono (Nat.le_of_lt h.lt))).alloc (Nat.le_of_lt h1.lt) _
  have h2 := h1.alloc (.cells #[.int .i64 (H z).st, .int .i64 (H z).rs, .slice A1 (H z).l.length c1', .int .i64 (H z).la] 46)
  have V := Blk.new w1 #[.int .i64 (H z).st, .int .i64 (H z).rs, .slice A1 (H z).l.length c1', .int .i64 (H z).la] 46
  have NA : Hid _ := fun hE => (N1.out hE).alloc (.cells #[.int .i64 (H z).st, .int .i64 (H z).rs, .slice A1 (H z).l.length c1', .int .i64 (H z).la] 46)
  have hgl := h.zf.lt
  by_cases hE : E z = 0
  · have e3 : Hid _ := hE
    replace NA := NA.out hE
    clear N1
    rw [hE]
    clear hE
    go_wp2_with fail
    generalize w1.alloc (.cells #[.int .i64 (H z).st, .int .i64 (H z).rs, .slice A1 (H z).l.length c1', .int .i64 (H z).la] 46) = w2 at *
    obtain ⟨kz, hkz⟩ : ∃ k, w1.heap.size = k := ⟨_, rfl⟩
    rw [hkz] at V
    simp only [hkz]
    have hk1 : kz ≠ g := by omega
    have hk2 : kw ≠ g := fun e => h2.zf.base.2 e.symm
    refine wp_region_held_drew (S := fun w' => But g w2 w') (by kernel_rfl) (But.refl _ _).drew (fun hHeld => ?_)
    try dsimp only at hHeld
    have bd := (Below.refl w2.heap.size w2).drew
    have h3 := h2.under bd
    have bb2 := bb.trans (bd.mono (Nat.le_of_lt h2.lt))
    have NB := NA.below bd
    generalize w2.drew = wd at *
    try simp only [Act.put, List.setIfInBounds_toArray, List.set_cons_zero, List.set_cons_succ]
    refine wpAnyH_take (i := 0) (v := ?_) (by simp only [List.getElem?_toArray, List.getElem?_cons_zero]; rfl) (by kernel_rfl) (by kernel_rfl) (by kernel_rfl) (by intro _ _ _ h; exact h) (Or.inl ⟨by rfl, ?_⟩) hHeld ?_
    rotate_left 1
    · intro wq hSw
      try dsimp only at hSw
      go_simp
      try (with_reducible rfl)
    try simp only [Act.put, List.setIfInBounds_toArray, List.set_cons_zero, List.set_cons_succ]
    refine wpAnyH_take (i := 1) (v := ?_) (by simp only [List.getElem?_toArray, List.getElem?_cons_succ, List.getElem?_cons_zero]; rfl) (by kernel_rfl) (by kernel_rfl) (by kernel_rfl) (by intro _ _ _ h; exact h) (Or.inl ⟨by rfl, ?_⟩) hHeld ?_
    rotate_left 1
    · intro wq hSw
      try dsimp only at hSw
      go_simp
      try (with_reducible rfl)
    try simp only [Act.put, List.setIfInBounds_toArray, List.set_cons_zero, List.set_cons_succ]
    refine wpAnyH_take (i := 2) (v := ?_) (by simp only [List.getElem?_toArray, List.getElem?_cons_succ, List.getElem?_cons_zero]; rfl) (by kernel_rfl) (by kernel_rfl) (by kernel_rfl) (by intro _ _ _ h; exact h) (Or.inl ⟨by rfl, ?_⟩) hHeld ?_
    rotate_left 1
    · intro wq hSw
      try dsimp only at hSw
      go_simp
      try (with_reducible rfl)
    try simp only [Act.put, List.setIfInBounds_toArray, List.set_cons_zero, List.set_cons_succ]
    refine wpAnyH_take (i := 3) (v := ?_) (by simp only [List.getElem?_toArray, List.getElem?_cons_succ, List.getElem?_cons_zero]; rfl) (by kernel_rfl) (by kernel_rfl) (by kernel_rfl) (by intro _ _ _ h; exact h) (Or.inl ⟨by rfl, ?_⟩) hHeld ?_
    rotate_left 1
    · intro wq hSw
      try dsimp only at hSw
      go_simp
      try (with_reducible rfl)
    try simp only [Act.put, List.setIfInBounds_toArray, List.set_cons_zero, List.set_cons_succ]
    refine wpAnyH_take (i := 4) (v := ?_) (by simp only [List.getElem?_toArray, List.getElem?_cons_succ, List.getElem?_cons_zero]; rfl) (by kernel_rfl) (by kernel_rfl) (by kernel_rfl) (by intro _ _ _ h; exact h) (Or.inl ⟨by rfl, ?_⟩) hHeld ?_
    rotate_left 1
    · intro wq hSw
      try dsimp only at hSw
      obtain ⟨x0, x1, x2, x3, x4, x5, x6, x7, _⟩ := (h2.blk.but hSw hk2).eight
      go_simp
      try (with_reducible rfl)
    try simp only [Act.put, List.setIfInBounds_toArray, List.set_cons_zero, List.set_cons_succ]
    refine wpAnyH_take (i := 5) (v := ?_) (by simp only [List.getElem?_toArray, List.getElem?_cons_succ, List.getElem?_cons_zero]; rfl) (by kernel_rfl) (by kernel_rfl) (by kernel_rfl) (by intro _ _ _ h; exact h) (Or.inl ⟨by rfl, ?_⟩) hHeld ?_
    rotate_left 1
    · intro wq hSw
      try dsimp only at hSw
      go_simp
      try (with_reducible rfl)
    try simp only [Act.put, List.setIfInBounds_toArray, List.set_cons_zero, List.set_cons_succ]
    refine wpAnyH_take (i := 6) (v := ?_) (by simp only [List.getElem?_toArray, List.getElem?_cons_succ, List.getElem?_cons_zero]; rfl) (by kernel_rfl) (by kernel_rfl) (by kernel_rfl) (by intro _ _ _ h; exact h) (Or.inl ⟨by rfl, ?_⟩) hHeld ?_
    rotate_left 1
    · intro wq hSw
      try dsimp only at hSw
      obtain ⟨x0, x1, x2, x3, _⟩ := (V.but hSw hk1).four
      go_simp
      try (with_reducible rfl)
    try simp only [Act.put, List.setIfInBounds_toArray, List.set_cons_zero, List.set_cons_succ]
    refine wpAnyH_take (i := 7) (v := ?_) (by simp only [List.getElem?_toArray, List.getElem?_cons_succ, List.getElem?_cons_zero]; rfl) (by kernel_rfl) (by kernel_rfl) (by kernel_rfl) (by intro _ _ _ h; exact h) (Or.inl ⟨by rfl, ?_⟩) hHeld ?_
    rotate_left 1
    · intro wq hSw
      try dsimp only at hSw
      go_simp
      try (with_reducible rfl)
    try simp only [Act.put, List.setIfInBounds_toArray, List.set_cons_zero, List.set_cons_succ]
    refine wpAnyH_ready (rs := [8]) (by kernel_rfl) (by simp) ?_
    refine AllReadyH.cons (by simp only [List.getElem?_toArray, List.getElem?_cons_succ, List.getElem?_cons_zero]; rfl) (fun K hK => ?_) AllReadyH.nil
    obtain ⟨⟨q0, q1, q2, q3, d0, d1, d2, d3⟩, f0, f1, f2, f3⟩ := h3.zf.cells hNl
    go_simp
    refine hK.out _ _ ((((hHeld.set _ _).set _ _).set _ _).set _ _) (fun hHeld => ?_)
    clear hK K
    try dsimp only at hHeld
    try simp only [Act.put, List.setIfInBounds_toArray, List.set_cons_zero, List.set_cons_succ]
    refine wpAnyH_done (by kernel_rfl) ?_ _
    have HZ3 := h3.zf.set hNl (H z) NB.sl (fun _ ad e => by
      have h1 := NB.fr ad e
      exact ⟨⟨by have := h.lt; omega, by omega⟩, by omega⟩)
    have hBg := h3.zf.base.1
    have b4 := (((bb2.setCell (p := ⟨g, N.toNat * 4, none⟩) hBg (.int .i64 (H z).st)).setCell (p := ⟨g, N.toNat * 4 + 1, none⟩) hBg (.int .i64 (H z).rs)).setCell (p := ⟨g, N.toNat * 4 + 2, none⟩) hBg (.slice A1 (H z).l.length c1')).setCell (p := ⟨g, N.toNat * 4 + 3, none⟩) hBg (.int .i64 (H z).la)
    have B4 := (((h3.blk.far (a := ⟨g, N.toNat * 4, none⟩) hk2 (.int .i64 (H z).st)).far (a := ⟨g, N.toNat * 4 + 1, none⟩) hk2 (.int .i64 (H z).rs)).far (a := ⟨g, N.toNat * 4 + 2, none⟩) hk2 (.slice A1 (H z).l.length c1')).far (a := ⟨g, N.toNat * 4 + 3, none⟩) hk2 (.int .i64 (H z).la)
    have hlw : ∀ i : Nat, 0 < nd → ∀ ad, Ad = some ad → ad.block ≠ (⟨g, i, none⟩ : Addr).block := fun i hn ad e hh => by
      have h5 := h.low hn ad e
      have h6 : ad.block = g := hh
      omega
    have S4 := (((h3.sl.farz (hlw (N.toNat * 4)) (.int .i64 (H z).st)).farz (hlw (N.toNat * 4 + 1)) (.int .i64 (H z).rs)).farz (hlw (N.toNat * 4 + 2)) (.slice A1 (H z).l.length c1')).farz (hlw (N.toNat * 4 + 3)) (.int .i64 (H z).la)
    have hls : Hid (zs.length = (zs.set N.toNat (H z)).length) := (List.length_set).symm
    go_wp2
    go_ret
    rw [hls.out] at B4
    rw [e0.out.1, e0.out.2, if_pos e3.out, e3.out]
    exact Wk.post 0 ⟨B4, HZ3, S4, h.low, h.at_⟩ b4
  · have e3 : Hid _ := hE
    have hq : (E z == 0) = false := by simp [hE]
    clear hE
    go_wp2
    go_ret
    rw [e0.out.1, e0.out.2, if_neg e3.out]
    exact Wk.post (E z) h2 bb
end Go.Proofs.Ytnjekhnheihooaa
