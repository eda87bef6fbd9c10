/-
  Contract of the closure of package extent's Read (written by gen_ext8.py).
-/
import Derived.Test.YtepaojegcaapfaaExt7
namespace Go.Wag
open Go.RowKit
set_option linter.unusedVariables false
theorem grown_far {w w' : World} {r : Option Nat} (h : w.grownBy w' r) {a : Addr} (ha : w.heap.size ≤ a.block) (u : Value) : w.grownBy (w'.setCell a u) r := by
  have g := grown_set w' a u
  refine ⟨g.os.trans h.os, g.tape.trans h.tape, g.output.trans h.output, Nat.le_trans h.size g.size, fun i hi hne => ?_⟩
  refine (g.block i (Nat.lt_of_lt_of_le hi h.size) (fun e => ?_)).trans (h.block i hi hne)
  have := Option.some.inj e
  omega
theorem grown_here {w w' : World} {k : Nat} (h : w.grownBy w' (some k)) (i : Nat) (u : Value) : w.grownBy (w'.setCell ⟨k, i, none⟩ u) (some k) := by
  have g := grown_set w' ⟨k, i, none⟩ u
  exact ⟨g.os.trans h.os, g.tape.trans h.tape, g.output.trans h.output, Nat.le_trans h.size g.size, fun i hi hne => (g.block i (Nat.lt_of_lt_of_le hi h.size) hne).trans (h.block i hi hne)⟩
end Go.Wag
namespace Go.Proofs.Ytepaojegcaapfaa
open Go.RowKit Go.Wag
set_option linter.unusedVariables false
set_option maxRecDepth 20000
/-- What the closure answers: the next extent, and the variable cut to the rest. -/
def TakePost (w : World) (kl : Nat) (A : Option Addr) (n c : Nat) (r : Option (Xp × List UInt8)) (e : Ending) (w' : World) : Prop :=
  match r with
  | none => e = .returned (.tuple #[.agg #[.int .i64 0, .int .i64 0, .int .i64 0, .int .i64 0, .slice none 0 0], .bool false]) ∧ Blk w' kl #[.slice none 0 0] 23 ∧ w.grownBy w' (some kl)
  | some y => ∃ A' m c', Hid (m = y.1.l.length) ∧ e = .returned (.tuple #[.agg #[.int .i64 y.1.la, .int .i64 y.1.n, .int .i64 y.1.k, .int .i64 y.1.g, .slice A' m c'], .bool true]) ∧ Sl w' A' m c' (y.1.l.map v8) ∧ Fr w A' ∧
      Blk w' kl #[.slice (cutA A c (7 + m)) (n - (7 + m)) (c - (7 + m))] 23 ∧ w.grownBy w' (some kl)
theorem TakePost.mkNo {w w' : World} {kl : Nat} {A : Option Addr} {n c : Nat} {r : Option (Xp × List UInt8)} (hr : r = none) (hB : Blk w' kl #[.slice none 0 0] 23) (hg : w.grownBy w' (some kl)) : TakePost w kl A n c r (.returned (.tuple #[.agg #[.int .i64 0, .int .i64 0, .int .i64 0, .int .i64 0, .slice none 0 0], .bool false])) w' := by
  subst hr
  exact ⟨rfl, hB, hg⟩
theorem TakePost.mkYes {w w' : World} {kl : Nat} {A : Option Addr} {n c : Nat} {r : Option (Xp × List UInt8)} {x : Xp} {t : List UInt8} {A' : Option Addr} {m c' : Nat} (hr : r = some (x, t)) (hm : m = x.l.length) (hS : Sl w' A' m c' (x.l.map v8)) (hF : Fr w A')
    (hB : Blk w' kl #[.slice (cutA A c (7 + m)) (n - (7 + m)) (c - (7 + m))] 23) (hg : w.grownBy w' (some kl)) :
    TakePost w kl A n c r (.returned (.tuple #[.agg #[.int .i64 x.la, .int .i64 x.n, .int .i64 x.k, .int .i64 x.g, .slice A' m c'], .bool true])) w' := by
  subst hr
  exact ⟨A', m, c', hm, rfl, hS, hF, hB, hg⟩
set_option maxHeartbeats 2000000 in
theorem eTake_any (kl : Nat) (A : Option Addr) (n c : Nat) (b : List UInt8) (w : World) (L : Blk w kl #[.slice A n c] 23) (h : Sl w A n c (b.map v8)) (hn : n ≤ 10000000000000) :
    Calls Try.prog 50 #[.pointer (some ⟨kl, 0, none⟩)] w (TakePost w kl A n c (fstX b)) := by
  have hkl := L.lt
  have U := Blk.new w #[.int .i64 0, .int .i64 0, .int .i64 0, .int .i64 0, .slice none 0 0] 38
  have bb := (Below.refl w.heap.size w).alloc (Nat.le_refl _) (.cells #[.int .i64 0, .int .i64 0, .int .i64 0, .int .i64 0, .slice none 0 0] 38)
  replace L := L.alloc (.cells #[.int .i64 0, .int .i64 0, .int .i64 0, .int .i64 0, .slice none 0 0] 38)
  replace h := h.alloc (.cells #[.int .i64 0, .int .i64 0, .int .i64 0, .int .i64 0, .slice none 0 0] 38)
  have n1 : kl ≠ w.heap.size := Nat.ne_of_lt hkl
  have n2 : w.heap.size ≠ kl := fun e => n1 e.symm
  obtain ⟨l0, _⟩ := L.one
  cases hf : fstX b with
  | none =>
    go_enter Try.func50, Try.ntmps50
    go_wp2_with fail
    refine (FstPost.no (eFirst_any A n c b _ h hn) hf).mono ?_
    rintro e w2 ⟨rfl, b2⟩
    replace U := U.under b2
    replace L := L.under b2
    replace bb := bb.trans (b2.mono bb.size)
    clear b2 l0
    obtain ⟨z0, z1, z2, z3, z4, y0, y1, y2, y3, y4⟩ := U.five
    obtain ⟨l0, l1⟩ := L.one
    go_upto_region 2 with (fail)
    replace U := (((((U.set 0 (.int .i64 0)).set 1 (.int .i64 0)).set 2 (.int .i64 0)).set 3 (.int .i64 0)).set 4 (.slice none 0 0)).far (a := ⟨kl, 0, none⟩) n2 (.slice none 0 0)
    simp only [List.setIfInBounds_toArray, List.set_cons_zero, List.set_cons_succ] at U
    replace L := (((((L.far (a := ⟨w.heap.size, 0, none⟩) (n1) (.int .i64 0)).far (a := ⟨w.heap.size, 1, none⟩) (n1) (.int .i64 0)).far (a := ⟨w.heap.size, 2, none⟩) (n1) (.int .i64 0)).far (a := ⟨w.heap.size, 3, none⟩) (n1) (.int .i64 0)).far (a := ⟨w.heap.size, 4, none⟩) (n1) (.slice none 0 0)).set 0 (.slice none 0 0)
    simp only [List.setIfInBounds_toArray, List.set_cons_zero] at L
    have gr := grown_here (grown_far (grown_far (grown_far (grown_far (grown_far (only_of bb (some kl)) (a := ⟨w.heap.size, 0, none⟩) (Nat.le_refl _) (.int .i64 0)) (a := ⟨w.heap.size, 1, none⟩) (Nat.le_refl _) (.int .i64 0)) (a := ⟨w.heap.size, 2, none⟩) (Nat.le_refl _) (.int .i64 0)) (a := ⟨w.heap.size, 3, none⟩) (Nat.le_refl _) (.int .i64 0)) (a := ⟨w.heap.size, 4, none⟩) (Nat.le_refl _) (.slice none 0 0)) 0 (.slice none 0 0)
    generalize ((((((w2.setCell ⟨w.heap.size, 0, none⟩ (.int .i64 0)).setCell ⟨w.heap.size, 1, none⟩ (.int .i64 0)).setCell ⟨w.heap.size, 2, none⟩ (.int .i64 0)).setCell ⟨w.heap.size, 3, none⟩ (.int .i64 0)).setCell ⟨w.heap.size, 4, none⟩ (.slice none 0 0)).setCell ⟨kl, 0, none⟩ (.slice none 0 0)) = w3 at *
    clear z0 z1 z2 z3 z4 y0 y1 y2 y3 y4 l0 l1 bb
    obtain ⟨z0, z1, z2, z3, z4, y0, y1, y2, y3, y4⟩ := U.five
    go_wp2
    try simp only [Exit.inBlock, Exit.then]
    exact ret_blk2 rfl rfl (((((U.set 0 (_)).set 1 (_)).set 2 (_)).set 3 (_)).set 4 (_)) Try.underlying38 (by kernel_rfl) rfl (TakePost.mkNo rfl (((((L.far (a := ⟨w.heap.size, 0, none⟩) (n1) (_)).far (a := ⟨w.heap.size, 1, none⟩) (n1) (_)).far (a := ⟨w.heap.size, 2, none⟩) (n1) (_)).far (a := ⟨w.heap.size, 3, none⟩) (n1) (_)).far (a := ⟨w.heap.size, 4, none⟩) (n1) (_)) (grown_far (grown_far (grown_far (grown_far (grown_far gr (a := ⟨w.heap.size, 0, none⟩) (Nat.le_refl _) (_)) (a := ⟨w.heap.size, 1, none⟩) (Nat.le_refl _) (_)) (a := ⟨w.heap.size, 2, none⟩) (Nat.le_refl _) (_)) (a := ⟨w.heap.size, 3, none⟩) (Nat.le_refl _) (_)) (a := ⟨w.heap.size, 4, none⟩) (Nat.le_refl _) (_)))
  | some y =>
    obtain ⟨x, t⟩ := y
    go_enter Try.func50, Try.ntmps50
    go_wp2_with fail
    refine (FstPost.ok (eFirst_any A n c b _ h hn) hf).mono ?_
    rintro e w2 ⟨A2, c2, rfl, N2, b2⟩
    obtain ⟨m, hm⟩ : ∃ m, Hid (m = x.l.length) := ⟨_, rfl⟩
    dsimp only at N2
    try dsimp only
    rw [← hm.out] at N2
    try rw [← hm.out]
    have hfU : ∀ ad, A2 = some ad → ad.block ≠ w.heap.size := fun ad e => Nat.ne_of_gt (Nat.lt_of_lt_of_le U.lt (N2.fr ad e))
    have hfk : ∀ ad, A2 = some ad → ad.block ≠ kl := fun ad e => Nat.ne_of_gt (Nat.lt_of_lt_of_le L.lt (N2.fr ad e))
    have hfr : Fr w A2 := fun ad e => Nat.le_trans (Nat.le_of_lt U.lt) (N2.fr ad e)
    have S2 := N2.sl
    replace U := U.under b2
    replace L := L.under b2
    replace bb := bb.trans (b2.mono bb.size)
    clear b2 l0 N2
    obtain ⟨z0, z1, z2, z3, z4, y0, y1, y2, y3, y4⟩ := U.five
    obtain ⟨l0, l1⟩ := L.one
    generalize hA3 : cutA A c (7 + m) = A3 at *
    generalize hn3 : n - (7 + m) = n3 at *
    generalize hc3 : c - (7 + m) = c3 at *
    go_upto_region 2 with (fail)
    replace U := (((((U.set 0 (.int .i64 x.la)).set 1 (.int .i64 x.n)).set 2 (.int .i64 x.k)).set 3 (.int .i64 x.g)).set 4 (.slice A2 m c2)).far (a := ⟨kl, 0, none⟩) n2 (.slice A3 n3 c3)
    simp only [List.setIfInBounds_toArray, List.set_cons_zero, List.set_cons_succ] at U
    replace L := (((((L.far (a := ⟨w.heap.size, 0, none⟩) (n1) (.int .i64 x.la)).far (a := ⟨w.heap.size, 1, none⟩) (n1) (.int .i64 x.n)).far (a := ⟨w.heap.size, 2, none⟩) (n1) (.int .i64 x.k)).far (a := ⟨w.heap.size, 3, none⟩) (n1) (.int .i64 x.g)).far (a := ⟨w.heap.size, 4, none⟩) (n1) (.slice A2 m c2)).set 0 (.slice A3 n3 c3)
    simp only [List.setIfInBounds_toArray, List.set_cons_zero] at L
    have gr := grown_here (grown_far (grown_far (grown_far (grown_far (grown_far (only_of bb (some kl)) (a := ⟨w.heap.size, 0, none⟩) (Nat.le_refl _) (.int .i64 x.la)) (a := ⟨w.heap.size, 1, none⟩) (Nat.le_refl _) (.int .i64 x.n)) (a := ⟨w.heap.size, 2, none⟩) (Nat.le_refl _) (.int .i64 x.k)) (a := ⟨w.heap.size, 3, none⟩) (Nat.le_refl _) (.int .i64 x.g)) (a := ⟨w.heap.size, 4, none⟩) (Nat.le_refl _) (.slice A2 m c2)) 0 (.slice A3 n3 c3)
    have S3 := (((((S2.far (a := ⟨w.heap.size, 0, none⟩) (hfU) (.int .i64 x.la)).far (a := ⟨w.heap.size, 1, none⟩) (hfU) (.int .i64 x.n)).far (a := ⟨w.heap.size, 2, none⟩) (hfU) (.int .i64 x.k)).far (a := ⟨w.heap.size, 3, none⟩) (hfU) (.int .i64 x.g)).far (a := ⟨w.heap.size, 4, none⟩) (hfU) (.slice A2 m c2)).far (a := ⟨kl, 0, none⟩) hfk (.slice A3 n3 c3)
    generalize ((((((w2.setCell ⟨w.heap.size, 0, none⟩ (.int .i64 x.la)).setCell ⟨w.heap.size, 1, none⟩ (.int .i64 x.n)).setCell ⟨w.heap.size, 2, none⟩ (.int .i64 x.k)).setCell ⟨w.heap.size, 3, none⟩ (.int .i64 x.g)).setCell ⟨w.heap.size, 4, none⟩ (.slice A2 m c2)).setCell ⟨kl, 0, none⟩ (.slice A3 n3 c3)) = w3 at *
    clear z0 z1 z2 z3 z4 y0 y1 y2 y3 y4 l0 l1 bb
    obtain ⟨z0, z1, z2, z3, z4, y0, y1, y2, y3, y4⟩ := U.five
    go_wp2
    try simp only [Exit.inBlock, Exit.then]
    subst hA3 hn3 hc3
    exact ret_blk2 rfl rfl (((((U.set 0 (_)).set 1 (_)).set 2 (_)).set 3 (_)).set 4 (_)) Try.underlying38 (by kernel_rfl) rfl (TakePost.mkYes rfl hm.out (((((S3.far (a := ⟨w.heap.size, 0, none⟩) (hfU) (_)).far (a := ⟨w.heap.size, 1, none⟩) (hfU) (_)).far (a := ⟨w.heap.size, 2, none⟩) (hfU) (_)).far (a := ⟨w.heap.size, 3, none⟩) (hfU) (_)).far (a := ⟨w.heap.size, 4, none⟩) (hfU) (_)) hfr (((((L.far (a := ⟨w.heap.size, 0, none⟩) (n1) (_)).far (a := ⟨w.heap.size, 1, none⟩) (n1) (_)).far (a := ⟨w.heap.size, 2, none⟩) (n1) (_)).far (a := ⟨w.heap.size, 3, none⟩) (n1) (_)).far (a := ⟨w.heap.size, 4, none⟩) (n1) (_)) (grown_far (grown_far (grown_far (grown_far (grown_far gr (a := ⟨w.heap.size, 0, none⟩) (Nat.le_refl _) (_)) (a := ⟨w.heap.size, 1, none⟩) (Nat.le_refl _) (_)) (a := ⟨w.heap.size, 2, none⟩) (Nat.le_refl _) (_)) (a := ⟨w.heap.size, 3, none⟩) (Nat.le_refl _) (_)) (a := ⟨w.heap.size, 4, none⟩) (Nat.le_refl _) (_)))
end Go.Proofs.Ytepaojegcaapfaa
