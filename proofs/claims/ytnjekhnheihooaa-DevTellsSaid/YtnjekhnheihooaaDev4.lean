/-
  Contracts of package dev: Crash, Read, a flush's closure (written by gen_dev4.py).
-/
import Derived.Test.YtnjekhnheihooaaDev3
namespace Go.Proofs.Ytnjekhnheihooaa
open Go.RowKit Go.Wag
set_option linter.unusedVariables false

def crZs (size : Int) (ks : List Int) (zs : List Zp) : List Zp := zs.mapIdx fun i z => crZ size (keepAt ks i) z
/-- A device behind a crash. -/
def cdLf (size lf : Int) (zs : List Zp) : Int := if devF size zs then -1 else lf
def cdDw (size : Int) (dw : Bool) (zs : List Zp) : Bool := if devF size zs then false else dw
def cdZs (size : Int) (ks : List Int) (zs : List Zp) : List Zp := if devF size zs then crZs size ks zs else zs

set_option maxHeartbeats 1000000 in
theorem dCrash_any {F : Nat → Prop} (size lf dn : Int) (dw : Bool) (A : Option Addr) (n c : Nat) (zs : List Zp) (Ak : Option Addr) (ck : Nat) (ks : List Int) (w : World) (h : Zs F w A n c zs) (hsm : Sm zs) (hs : Sl w Ak ks.length ck (ks.map iv)) (hf : fits ks) :
    Calls Try.prog 17 #[.agg #[.int .i64 size, .slice A n c, .int .i64 lf, .bool dw, .int .i64 dn], .slice Ak ks.length ck] w (DevNew w size (cdLf size lf zs) dn (cdDw size dw zs) (cdZs size ks zs)) := by
  have B0 := ((Blk.new w #[.int .i64 size, .slice A n c, .int .i64 lf, .bool dw, .int .i64 dn] 25).alloc (.cells #[.slice Ak ks.length ck] 26)).alloc (.cells #[.int .i64 0, .slice none 0 0, .int .i64 0, .bool false, .int .i64 0] 25)
  have B1 := (Blk.new (w.alloc (.cells #[.int .i64 size, .slice A n c, .int .i64 lf, .bool dw, .int .i64 dn] 25)) #[.slice Ak ks.length ck] 26).alloc (.cells #[.int .i64 0, .slice none 0 0, .int .i64 0, .bool false, .int .i64 0] 25)
  have B2 := Blk.new ((w.alloc (.cells #[.int .i64 size, .slice A n c, .int .i64 lf, .bool dw, .int .i64 dn] 25)).alloc (.cells #[.slice Ak ks.length ck] 26)) #[.int .i64 0, .slice none 0 0, .int .i64 0, .bool false, .int .i64 0] 25
  have b0 := (((Below.refl w.heap.size w).alloc (Nat.le_refl _) (.cells #[.int .i64 size, .slice A n c, .int .i64 lf, .bool dw, .int .i64 dn] 25)).alloc (by simp) (.cells #[.slice Ak ks.length ck] 26)).alloc (by simp; omega) (.cells #[.int .i64 0, .slice none 0 0, .int .i64 0, .bool false, .int .i64 0] 25)
  have hs0 : (((w.alloc (.cells #[.int .i64 size, .slice A n c, .int .i64 lf, .bool dw, .int .i64 dn] 25)).alloc (.cells #[.slice Ak ks.length ck] 26)).alloc (.cells #[.int .i64 0, .slice none 0 0, .int .i64 0, .bool false, .int .i64 0] 25)).heap.size = w.heap.size + 3 := by simp
  simp only [World.size_alloc] at B1 B2
  have hAk : 0 < ks.length → ∀ ad, Ak = some ad → ad.block < w.heap.size := fun hn ad e => by
    obtain ⟨ad', e', hb, _⟩ := hs.cells hn
    cases e.symm.trans e'
    exact hb
  have h1 := (h.imp (F' := fun b => b < w.heap.size) (fun b hb _ => hb)).below b0
  have hs1 := hs.below b0
  go_enter Try.func17, Try.ntmps17
  go_wp2_with fail
  generalize (((w.alloc (.cells #[.int .i64 size, .slice A n c, .int .i64 lf, .bool dw, .int .i64 dn] 25)).alloc (.cells #[.slice Ak ks.length ck] 26)).alloc (.cells #[.int .i64 0, .slice none 0 0, .int .i64 0, .bool false, .int .i64 0] 25)) = w0 at *
  refine (dCheck_any size lf dn dw A n c zs w0 h1).mono ?_
  rintro e w1 ⟨rfl, b1⟩
  replace h1 := h1.below b1
  replace hs1 := hs1.below b1
  replace B0 := B0.under b1
  replace B1 := B1.under b1
  replace B2 := B2.under b1
  have b2 := b0.trans (b1.mono (by omega))
  have hz1 := b1.size
  obtain ⟨p0, p1, p2, p3, p4, f0, f1, f2, f3, f4⟩ := B0.five
  cases hc : devF size zs with
  | false =>
    have e1 : Hid (cdLf size lf zs = lf) := by show cdLf size lf zs = lf; simp [cdLf, hc]
    have e2 : Hid (cdDw size dw zs = dw) := by show cdDw size dw zs = dw; simp [cdDw, hc]
    have e3 : Hid (cdZs size ks zs = zs) := by show cdZs size ks zs = zs; simp [cdZs, hc]
    go_wp2_with fail
    refine (dcopied_any size lf dn dw A n c zs w1 h1 hsm).mono ?_
    rintro e w2 ⟨g, rfl, Z2, b3⟩
    have B3 := B2.under b3
    obtain ⟨r0, r1, r2, r3, r4, g0, g1, g2, g3, g4⟩ := B3.five
    go_wp2
    try simp only [Exit.inBlock, Exit.then]
    rw [e1.out, e2.out, e3.out]
    exact ret_dev rfl rfl B3 Z2 rfl (by omega) (by omega) (b2.trans (b3.mono (by omega)))
  | true =>
    have e1 : Hid (cdLf size lf zs = -1) := by show cdLf size lf zs = -1; simp [cdLf, hc]
    have e2 : Hid (cdDw size dw zs = false) := by show cdDw size dw zs = false; simp [cdDw, hc]
    have e3 : Hid (cdZs size ks zs = crZs size ks zs) := by show cdZs size ks zs = crZs size ks zs; simp [cdZs, hc]
    go_wp2_with fail
    have b3 := (b2.setCell (p := ⟨w.heap.size, 3, none⟩) (Nat.le_refl _) (.bool false)).setCell (p := ⟨w.heap.size, 2, none⟩) (Nat.le_refl _) (.int .i64 (-1))
    have h3 := (h1.far (a := ⟨w.heap.size, 3, none⟩) (by simp) (.bool false)).far (a := ⟨w.heap.size, 2, none⟩) (by simp) (.int .i64 (-1))
    have B3 := (B0.set 3 (.bool false)).set 2 (.int .i64 (-1))
    simp only [List.setIfInBounds_toArray, List.set_cons_zero, List.set_cons_succ] at B3
    have B4 := (B1.far (a := ⟨w.heap.size, 3, none⟩) (by simp) (.bool false)).far (a := ⟨w.heap.size, 2, none⟩) (by simp) (.int .i64 (-1))
    have B5 := (B2.far (a := ⟨w.heap.size, 3, none⟩) (by simp; omega) (.bool false)).far (a := ⟨w.heap.size, 2, none⟩) (by simp; omega) (.int .i64 (-1))
    have hs3 := (hs1.farz (a := ⟨w.heap.size, 3, none⟩) (fun hn ad e => Nat.ne_of_lt (hAk hn ad e)) (.bool false)).farz (a := ⟨w.heap.size, 2, none⟩) (fun hn ad e => Nat.ne_of_lt (hAk hn ad e)) (.int .i64 (-1))
    have hz3 : w.heap.size + 3 ≤ ((w1.setCell ⟨w.heap.size, 3, none⟩ (.bool false)).setCell ⟨w.heap.size, 2, none⟩ (.int .i64 (-1))).heap.size := by simp [World.setCell]; omega
    clear h1 hs1 B0 B1 B2 b2 f0 f1 f2 f3 f4 p0 p1 p2 p3 p4
    generalize (w1.setCell ⟨w.heap.size, 3, none⟩ (.bool false)).setCell ⟨w.heap.size, 2, none⟩ (.int .i64 (-1)) = w3 at *
    refine (deach_any 31 #[.pointer (some ⟨w.heap.size + 1, 0, none⟩), .pointer (some ⟨w.heap.size, 0, none⟩)] (fun i z => crZ size (keepAt ks i) z) size (-1) dn false A n c zs w3 h3 hsm (fun _ _ _ => by kernel_rfl)
      (fun i z Ai ci w' hz b hS => dCrash1_any i z Ai ci size (-1) dn false A n c Ak ck ks w.heap.size (w.heap.size + 1) 26 w' hS (hsm.at_ hz) (B3.under b) (B4.under b) (hs3.below b) hf (by
        have h1 : i < zs.length := (List.getElem?_eq_some_iff.1 hz).1
        have h2 := hsm.1
        omega))).mono ?_
    rintro e w4 ⟨g, rfl, Z4, b4⟩
    have B6 := B5.under b4
    obtain ⟨r0, r1, r2, r3, r4, g0, g1, g2, g3, g4⟩ := B6.five
    go_wp2
    try simp only [Exit.inBlock, Exit.then]
    rw [e1.out, e2.out, e3.out]
    exact ret_dev rfl rfl B6 Z4 (by simp [crZs]) (by omega) (by omega) (b3.trans (b4.mono (by omega)))

def fsZ (z : Zp) : Zp := ⟨z.st, z.rs, z.l.length, z.l⟩
theorem dflush1_any (i : Int) (z : Zp) (Ai : Option Addr) (ci : Nat) (w : World) (h : Sl w Ai z.l.length ci (z.l.map v8)) (hn : z.l.length ≤ 10000000000000) :
    Calls Try.prog 52 #[.int .i64 i, .agg #[.int .i64 z.st, .int .i64 z.rs, .slice Ai z.l.length ci, .int .i64 z.la]] w (ZoneNew w (fsZ z).st (fsZ z).rs (fsZ z).l (fsZ z).la) := by
  have B1 := Blk.new (w.alloc (.cells #[.int .i64 z.st, .int .i64 z.rs, .slice Ai z.l.length ci, .int .i64 z.la] 46)) #[.int .i64 0, .int .i64 0, .slice none 0 0, .int .i64 0] 46
  have b0 := ((Below.refl w.heap.size w).alloc (Nat.le_refl _) (.cells #[.int .i64 z.st, .int .i64 z.rs, .slice Ai z.l.length ci, .int .i64 z.la] 46)).alloc (by simp) (.cells #[.int .i64 0, .int .i64 0, .slice none 0 0, .int .i64 0] 46)
  have hs0 : ((w.alloc (.cells #[.int .i64 z.st, .int .i64 z.rs, .slice Ai z.l.length ci, .int .i64 z.la] 46)).alloc (.cells #[.int .i64 0, .int .i64 0, .slice none 0 0, .int .i64 0] 46)).heap.size = w.heap.size + 2 := by simp
  simp only [World.size_alloc] at B1
  replace h := h.below b0
  go_enter Try.func52, Try.ntmps52
  go_wp2_with fail
  generalize ((w.alloc (.cells #[.int .i64 z.st, .int .i64 z.rs, .slice Ai z.l.length ci, .int .i64 z.la] 46)).alloc (.cells #[.int .i64 0, .int .i64 0, .slice none 0 0, .int .i64 0] 46)) = w0 at *
  refine (zFlush_any z.st z.rs z.la Ai z.l.length ci z.l w0 h hn).mono ?_
  rintro e w1 ⟨A1, n1, c1, rfl, N1, b1⟩
  have B1' := B1.under b1
  obtain ⟨r0, r1, r2, r3, g0, g1, g2, g3⟩ := B1'.four
  go_wp2
  try simp only [Exit.inBlock, Exit.then]
  exact ret_zone (l := (fsZ z).l) rfl rfl B1' N1 (by omega) (by omega) (b0.trans (b1.mono (by omega)))

/-- Bytes of a zone. -/
def rdOk (size : Int) (zs : List Zp) (zn at_ n : Int) : Bool := devF size zs && decide (0 ≤ zn ∧ zn < zs.length ∧ 0 ≤ at_ ∧ 0 ≤ n) && decide (n ≤ ((zs[zn.toNat]?).elim [] Zp.l).length - at_)
def rdF (size : Int) (zs : List Zp) (zn at_ n : Int) : List UInt8 := (((zs[zn.toNat]?).elim [] Zp.l).take (at_ + n).toNat).drop at_.toNat
/-- What Read answers. -/
def ReadPost (w : World) (size : Int) (zs : List Zp) (zn at_ n : Int) (e : Ending) (w' : World) : Prop :=
  (rdOk size zs zn at_ n = true ∧ ∃ A c, e = .returned (.tuple #[.slice A (rdF size zs zn at_ n).length c, .int .i64 0]) ∧ Nw 5 w w' A (rdF size zs zn at_ n).length c ((rdF size zs zn at_ n).map v8) ∧ Below w.heap.size w w') ∨
  (rdOk size zs zn at_ n = false ∧ e = .returned (.tuple #[.slice none 0 0, .int .i64 1]) ∧ Below w.heap.size w w')
theorem ReadPost.no {w w' : World} {size : Int} {zs : List Zp} {zn at_ n : Int} (h : rdOk size zs zn at_ n = false) (hb : Below w.heap.size w w') : ReadPost w size zs zn at_ n (.returned (.tuple #[.slice none 0 0, .int .i64 1])) w' := .inr ⟨h, rfl, hb⟩

set_option maxHeartbeats 1000000 in
theorem dRead_any {F : Nat → Prop} (size lf dn : Int) (dw : Bool) (A : Option Addr) (n c : Nat) (zs : List Zp) (zn at_ m : Int) (w : World) (h : Zs F w A n c zs) (hsm : Sm zs) (hx : at_ < 9223372036854775808) (hy : m < 9223372036854775808) :
    Calls Try.prog 14 #[.agg #[.int .i64 size, .slice A n c, .int .i64 lf, .bool dw, .int .i64 dn], .int .i64 zn, .int .i64 at_, .int .i64 m] w (ReadPost w size zs zn at_ m) := by
  have hlen := h.len
  subst hlen
  have hcap := h.cap
  have b0 := (Below.refl w.heap.size w).alloc (Nat.le_refl _) (.cells #[.int .i64 size, .slice A zs.length c, .int .i64 lf, .bool dw, .int .i64 dn] 25)
  have B0 := Blk.new w #[.int .i64 size, .slice A zs.length c, .int .i64 lf, .bool dw, .int .i64 dn] 25
  have h1 := h.below b0
  have hs0 : (w.alloc (.cells #[.int .i64 size, .slice A zs.length c, .int .i64 lf, .bool dw, .int .i64 dn] 25)).heap.size = w.heap.size + 1 := by simp
  go_enter Try.func14, Try.ntmps14
  go_wp2_with fail
  generalize w.alloc (.cells #[.int .i64 size, .slice A zs.length c, .int .i64 lf, .bool dw, .int .i64 dn] 25) = w0 at *
  refine (dCheck_any size lf dn dw A zs.length c zs w0 h1).mono ?_
  rintro e w1 ⟨rfl, b1⟩
  have b2 := b0.trans (b1.mono (by omega))
  replace h1 := h1.below b1
  replace B0 := B0.under b1
  obtain ⟨p0, p1, p2, p3, p4, _⟩ := B0.five
  cases hc : devF size zs with
  | false =>
    have hno : Hid (rdOk size zs zn at_ m = false) := by show rdOk size zs zn at_ m = false; simp [rdOk, hc]
    go_wp2
    go_ret2
    exact ReadPost.no hno.out b2
  | true =>
    by_cases hz0 : zn < 0
    · have hno : Hid (rdOk size zs zn at_ m = false) := by show rdOk size zs zn at_ m = false; simp [rdOk]; omega
      go_wp2
      go_ret2
      exact ReadPost.no hno.out b2
    by_cases hz1 : (zs.length : Int) ≤ zn
    · have hno : Hid (rdOk size zs zn at_ m = false) := by show rdOk size zs zn at_ m = false; simp [rdOk]; omega
      go_wp2
      go_ret2
      exact ReadPost.no hno.out b2
    by_cases ha0 : at_ < 0
    · have hno : Hid (rdOk size zs zn at_ m = false) := by show rdOk size zs zn at_ m = false; simp [rdOk]; omega
      go_wp2
      go_ret2
      exact ReadPost.no hno.out b2
    by_cases hm0 : m < 0
    · have hno : Hid (rdOk size zs zn at_ m = false) := by show rdOk size zs zn at_ m = false; simp [rdOk]; omega
      go_wp2
      go_ret2
      exact ReadPost.no hno.out b2
    have ha1 : ((at_.toNat : Nat) : Int) = at_ := by omega
    have hm1 : ((m.toNat : Nat) : Int) = m := by omega
    obtain ⟨gb, o, z, Ai, ci, rfl, hF, hg, hz, c0, c1, c2, c3, hS, hA⟩ := h1.at_ (show zn.toNat < zs.length by omega)
    have hzl := hsm.at_ hz
    have hrd : Hid (rdOk size zs zn at_ m = decide (m ≤ (z.l.length : Int) - at_)) := by
      show rdOk size zs zn at_ m = _
      simp [rdOk, hc, hz]
      omega
    have hrf : Hid (rdF size zs zn at_ m = (z.l.take (at_ + m).toNat).drop at_.toNat) := by
      show rdF size zs zn at_ m = _
      simp [rdF, hz]
    have hw1 : wrap64 ((z.l.length : Int) - at_) = (z.l.length : Int) - at_ := wrap64_small (by omega) (by omega)
    by_cases hgt : (z.l.length : Int) - at_ < m
    · have hno : Hid (rdOk size zs zn at_ m = false) := by show rdOk size zs zn at_ m = false; rw [hrd.out]; simp; omega
      clear ha1 hm1 hS hA hz
      go_wp2
      go_ret2
      exact ReadPost.no hno.out b2
    · have hyes : Hid (rdOk size zs zn at_ m = true) := by show rdOk size zs zn at_ m = true; rw [hrd.out]; simp; omega
      have hw2 : wrap64 (at_ + m) = at_ + m := wrap64_small (by omega) (by omega)
      have hci := hS.cap
      have hcut := fun W => run_cut2 (P := Try.prog) 31 5 un22 el22 sz5 Ai z.l.length ci .i64 .i64 at_ (at_ + m) at_.toNat (at_ + m).toNat (by omega) (by omega) (by omega) (by omega) W
      have hS2 := hS.cut (k := at_.toNat) (m := (at_ + m).toNat) (by omega) (by omega)
      have hl : Hid ((at_ + m).toNat - at_.toNat = ((z.l.take (at_ + m).toNat).drop at_.toNat).length) := by
        show _ = _
        rw [List.length_drop, List.length_take]
        omega
      have hq : Hid ((at_ + m).toNat - at_.toNat ≤ 10000000000000) := by show _ ≤ _; omega
      clear ha1 hm1 hS hA hz hci
      go_wp2_with fail
      rw [← List.map_take, ← List.map_drop] at hS2
      refine (dcopiedBytes_any _ _ _ ((z.l.take (at_ + m).toNat).drop at_.toNat) w1 hS2 hq.out).mono ?_
      rintro e w2 ⟨A2, c2, rfl, N2, b3⟩
      clear hcut hS2
      have hl2 : Hid ((at_ + m).toNat - at_.toNat = (rdF size zs zn at_ m).length) := by
        show _ = _
        rw [hrf.out]
        exact hl.out
      go_wp2
      go_ret2
      refine .inl ⟨hyes.out, A2, c2, ?_, ?_, b2.trans (b3.mono b2.size)⟩
      · rw [← hl2.out]
        rfl
      · rw [← hl2.out, hrf.out]
        exact N2.mono (by have := b1.size; omega)
end Go.Proofs.Ytnjekhnheihooaa
