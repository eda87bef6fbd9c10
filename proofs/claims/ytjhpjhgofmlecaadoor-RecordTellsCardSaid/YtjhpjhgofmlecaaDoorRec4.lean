/-
  Contracts of package record's finder, and of the closure that it makes.
-/
import Derived.Test.YtjhpjhgofmlecaaDoorRec3
namespace Go.Proofs.YtjhpjhgofmlecaaDoor
open Go.RowKit Go.Wag
set_option linter.unusedVariables false

theorem rfinder_any (A : Option Addr) (n c : Nat) (w : World) :
    Calls Tryd.prog 30 #[.slice A n c] w fun e w' => e = .returned (.func (.func 43) #[] #[.pointer (some ⟨w.heap.size, 0, none⟩), .pointer (some ⟨w.heap.size + 1, 0, none⟩)]) ∧
      Blk w' w.heap.size #[.slice A n c] 23 ∧ Blk w' (w.heap.size + 1) #[.int .i64 0] 3 ∧ Below w.heap.size w w' := by
  go_enter Tryd.func30, Tryd.ntmps30
  go_wp2
  go_ret
  refine ⟨rfl, (Blk.new _ _ _).alloc _, ?_, ((Below.refl _ _).alloc (Nat.le_refl _) _).alloc (by simp) _⟩
  have := Blk.new (w.alloc (.cells #[.slice A n c] 23)) #[.int .i64 0] 3
  simpa using this

theorem grown_new {w w1 : World} {row : Option Nat} (h : w.grownBy w1 row) {a : Addr} (ha : w.heap.size ≤ a.block) (u : Value) : w.grownBy (w1.setCell a u) row :=
  ⟨h.os, h.tape, h.output, by simpa [World.setCell] using h.size, fun i hi hne => (Below.heap_setCell _ _ _ _ (by omega)).trans (h.block i hi hne)⟩
theorem grown_at {w w1 : World} {k : Nat} (h : w.grownBy w1 (some k)) (i : Nat) (u : Value) : w.grownBy (w1.setCell ⟨k, i, none⟩ u) (some k) := h.trans (grown_set w1 ⟨k, i, none⟩ u)

/-- What a search from place p on answers: a record, its place, and the place behind it; or none. -/
def FindPost (w : World) (ka p : Nat) (x : Option (Rp × Nat)) (e : Ending) (w' : World) : Prop :=
  match x with
  | none => e = .returned (.tuple #[.agg #[.int .i64 0, .int .i64 0, .slice none 0 0], .int .i64 0, .bool false]) ∧ Below w.heap.size w w'
  | some (r, m) => ∃ A l c, l = r.l.length ∧ e = .returned (.tuple #[.agg #[.int .i64 r.k, .int .i64 r.s, .slice A l c], .int .i64 (p : Int), .bool true]) ∧ Sl w' A l c (r.l.map v8) ∧ Fr w A ∧
      Blk w' ka #[.int .i64 ((p + m : Nat) : Int)] 3 ∧ w.grownBy w' (some ka)
theorem FindPost.mkNo {w w' : World} {ka p : Nat} {e : Ending} {x : Option (Rp × Nat)} (hx : x = none) (h : FindPost w ka p none e w') : FindPost w ka p x e w' := by
  subst hx
  exact h
theorem FindPost.mkOk {w w' : World} {ka p : Nat} {e : Ending} {x : Option (Rp × Nat)} {y : Rp × Nat} (hx : x = some y) (h : FindPost w ka p (some y) e w') : FindPost w ka p x e w' := by
  subst hx
  exact h

set_option maxHeartbeats 2000000 in
theorem rfind_any (kb ka p : Nat) (A : Option Addr) (n c : Nat) (b : List UInt8) (w : World) (hT : Tab w) (Bb : Blk w kb #[.slice A n c] 23) (Ba : Blk w ka #[.int .i64 (p : Int)] 3) (h : Sl w A n c (b.map v8)) (hn : n ≤ 10000000000000) (hp : p ≤ n) :
    Calls Tryd.prog 43 #[.pointer (some ⟨kb, 0, none⟩), .pointer (some ⟨ka, 0, none⟩)] w (FindPost w ka p (rdF (b.drop p))) := by
  have HN : Hid (b.length = n) := h.len8
  have hcap := h.cap
  have hbig := h.big
  have bb := (Below.refl w.heap.size w).alloc (Nat.le_refl _) (.cells #[.int .i64 0, .int .i64 0, .slice none 0 0] 25)
  have V := Blk.new w #[.int .i64 0, .int .i64 0, .slice none 0 0] 25
  have hkb := Bb.lt
  have hka := Ba.lt
  obtain ⟨x0, x1⟩ := Bb.one
  obtain ⟨y0, y1⟩ := Ba.one
  have hcut := fun W => run_cut (P := Tryd.prog) 23 5 un22 el22 sz5 A n c .i64 (p : Int) p rfl hp W
  have HC := (h.from_ (k := p) hp).alloc (.cells #[.int .i64 0, .int .i64 0, .slice none 0 0] 25)
  rw [← List.map_drop] at HC
  cases hR : rdF (b.drop p) with
  | none =>
    go_enter Tryd.func43, Tryd.ntmps43
    go_wp2_with fail
    refine (RecErr.no (rRead_any _ _ _ (b.drop p) _ (hT.below bb) HC (by omega)) hR).mono ?_
    rintro e w2 ⟨rfl, b2⟩
    replace V := V.under b2
    replace bb := bb.trans (b2.mono bb.size)
    clear b2 x0 x1 y0 y1 hcut HC
    have hvl := V.lt
    obtain ⟨q0, q1, q2, r0, r1, r2⟩ := V.three
    go_wp2
    try simp only [Exit.inBlock, Exit.then]
    have b3 := ((bb.setCell (p := ⟨w.heap.size, 0, none⟩) (Nat.le_refl _) (.int .i64 0)).setCell (p := ⟨w.heap.size, 1, none⟩) (Nat.le_refl _) (.int .i64 0)).setCell (p := ⟨w.heap.size, 2, none⟩) (Nat.le_refl _) (.slice none 0 0)
    exact ret_blk3 rfl rfl ((((V.set 0 _).set 1 _).set 2 _).alloc _) Tryd.underlying25 (by kernel_rfl) rfl rfl ⟨rfl, b3.alloc b3.size _⟩
  | some y =>
    obtain ⟨r, m⟩ := y
    have hm2 := (rd_some hR).2.2.1
    rw [List.length_drop, HN.out] at hm2
    go_enter Tryd.func43, Tryd.ntmps43
    go_wp2_with fail
    refine (RecErr.ok (rRead_any _ _ _ (b.drop p) _ (hT.below bb) HC (by omega)) hR).mono ?_
    rintro e w2 ⟨A2, l2, c2, hl2, rfl, s2, f2, b2⟩
    have hf2 : ∀ ad, A2 = some ad → w.heap.size < ad.block := fun ad e => Nat.lt_of_lt_of_le V.lt (f2 ad e)
    replace V := V.under b2
    replace Ba := (Ba.alloc _).under b2
    replace bb := bb.trans (b2.mono bb.size)
    replace HN := Lib.hid hl2
    clear b2 x0 x1 y0 y1 hcut HC hl2
    have hvl := V.lt
    have hal := Ba.lt
    obtain ⟨y0, y1⟩ := Ba.one
    obtain ⟨q0, q1, q2, r0, r1, r2⟩ := V.three
    have hw : wrap64 ((p : Int) + (m : Int)) = (p : Int) + m := by unfold wrap64; omega
    go_wp2
    try simp only [Exit.inBlock, Exit.then]
    have hne : ka ≠ w.heap.size := by omega
    refine ret_blk3 rfl rfl (((((V.far (a := ⟨ka, 0, none⟩) (Ne.symm hne) (.int .i64 ((p : Int) + m))).set 0 (.int .i64 r.k)).set 1 (.int .i64 r.s)).set 2 (.slice A2 l2 c2)).alloc (.cells #[.int .i64 r.k, .int .i64 r.s, .slice A2 l2 c2] 25)) Tryd.underlying25 (by kernel_rfl) rfl rfl ⟨A2, l2, c2, HN.out, rfl, ?_, fun ad e => Nat.le_of_lt (hf2 ad e), ?_, ?_⟩
    · have h1 : ∀ ad, A2 = some ad → ad.block ≠ w.heap.size := fun ad e => Nat.ne_of_gt (hf2 ad e)
      have h2 : ∀ ad, A2 = some ad → ad.block ≠ ka := fun ad e => by have := hf2 ad e; omega
      exact ((((s2.far (a := ⟨ka, 0, none⟩) h2 _).far (a := ⟨w.heap.size, 0, none⟩) h1 _).far (a := ⟨w.heap.size, 1, none⟩) h1 _).far (a := ⟨w.heap.size, 2, none⟩) h1 _).alloc _
    · exact ((((Ba.set 0 _).far (a := ⟨w.heap.size, 0, none⟩) hne _).far (a := ⟨w.heap.size, 1, none⟩) hne _).far (a := ⟨w.heap.size, 2, none⟩) hne _).alloc _
    · exact (grown_new (grown_new (grown_new (grown_at (only_of bb (some ka)) 0 _) (a := ⟨w.heap.size, 0, none⟩) (Nat.le_refl _) _) (a := ⟨w.heap.size, 1, none⟩) (Nat.le_refl _) _) (a := ⟨w.heap.size, 2, none⟩) (Nat.le_refl _) _).trans (World.grownBy_alloc _ _ _)
end Go.Proofs.YtjhpjhgofmlecaaDoor
