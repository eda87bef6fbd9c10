/-
  Texts that the walks lean on, one behind the other: Log4, Log5, Log6, LogAwake0, LogAwake, Leaf, LogPure, ZoneSame, ZoneAwake, ZoneAppendsWalk, ZoneRoomWalk, ZoneClosesWalk, ZoneOwnWalk, ZoneRef, ZoneRef2, ZoneRef3, Ref4a, Ref4b, LogPure2.
-/
import Derived.MapKept
import Derived.Carry
import Derived.Deep.LoopGhost
import Derived.Maps.AppendAt
import Derived.Test.YtnejiclghnigiaaDoorMergC
namespace Go.Proofs.YtnejiclghnigiaaDoor
open Go.RowKit Go.Wag
set_option linter.unusedVariables false
set_option maxRecDepth 20000

/-- A record that was found, as data. -/
structure Fp where
  r : Rp
  zn : Int
  at_ : Int
/-- Found records as elements of a slice. -/
def fndE : Elt Fp where
  k := 5
  rd F w vs x := ∃ A c, vs = [.int .i64 x.r.k, .int .i64 x.r.s, .slice A x.r.l.length c, .int .i64 x.zn, .int .i64 x.at_] ∧ Sl w A x.r.l.length c (x.r.l.map v8) ∧ (0 < x.r.l.length → ∀ ad, A = some ad → F ad.block)
  pos := by decide
  len := fun ⟨A, c, h, _⟩ => by rw [h]; rfl
  keep := fun ⟨A, c, h, hS, hA⟩ hs hk => ⟨A, c, h, ⟨hS.len, hS.cap, hS.big, fun hn => by
    obtain ⟨ad, e, hb, hc⟩ := hS.cells hn
    exact ⟨ad, e, Nat.lt_of_lt_of_le hb hs, fun j u hu => (hk _ (by rw [add_block]; exact hb) (by rw [add_block]; exact hA hn ad e)).trans (hc j u hu)⟩⟩, hA⟩
  imp := fun ⟨A, c, h, hS, hA⟩ hF => ⟨A, c, h, hS, fun hn ad e => by
    obtain ⟨ad', e', hb, _⟩ := hS.cells hn
    cases e.symm.trans e'
    exact hF _ hb (hA hn ad e)⟩
abbrev seqK (x : Fp) : Int := x.r.s
/-- Found record i of a slice. -/
theorem Rs.fnd_at {F : Nat → Prop} {w : World} {A : Option Addr} {n c : Nat} {xs : List Fp} (h : Rs fndE F w A n c xs) {i : Nat} (hi : i < n) : ∃ g o x Ai ci, A = some ⟨g, o, none⟩ ∧ F g ∧ g < w.heap.size ∧ xs[i]? = some x ∧
    w.cell? ⟨g, o + i * 5, none⟩ = some (.int .i64 x.r.k) ∧ w.cell? ⟨g, o + i * 5 + 1, none⟩ = some (.int .i64 x.r.s) ∧ w.cell? ⟨g, o + i * 5 + 2, none⟩ = some (.slice Ai x.r.l.length ci) ∧ w.cell? ⟨g, o + i * 5 + 3, none⟩ = some (.int .i64 x.zn) ∧ w.cell? ⟨g, o + i * 5 + 4, none⟩ = some (.int .i64 x.at_) ∧ Sl w Ai x.r.l.length ci (x.r.l.map v8) ∧ (0 < x.r.l.length → ∀ ad, Ai = some ad → F ad.block) := by
  obtain ⟨g, o, x, vs, e, hF, hg, hr, ⟨Ai, ci, rfl, hS, hA⟩, hc⟩ := h.at_ hi
  exact ⟨g, o, x, Ai, ci, e, hF, hg, hr, hc 0 _ rfl, hc 1 _ rfl, hc 2 _ rfl, hc 3 _ rfl, hc 4 _ rfl, hS, hA⟩
theorem Ro.fnd_at {F : Nat → Prop} {t : TypeId} {w : World} {g : Nat} {xs : List Fp} (h : Ro fndE F t w g xs) {i : Nat} {x : Fp} (hi : xs[i]? = some x) : ∃ Ai ci, fndE.rd (fun b => F b ∧ b ≠ g) w [.int .i64 x.r.k, .int .i64 x.r.s, .slice Ai x.r.l.length ci, .int .i64 x.zn, .int .i64 x.at_] x ∧
    w.cell? ⟨g, i * 5, none⟩ = some (.int .i64 x.r.k) ∧ w.cell? ⟨g, i * 5 + 1, none⟩ = some (.int .i64 x.r.s) ∧ w.cell? ⟨g, i * 5 + 2, none⟩ = some (.slice Ai x.r.l.length ci) ∧ w.cell? ⟨g, i * 5 + 3, none⟩ = some (.int .i64 x.zn) ∧ w.cell? ⟨g, i * 5 + 4, none⟩ = some (.int .i64 x.at_) := by
  obtain ⟨vs, hr, hc⟩ := h.at_ i x hi
  obtain ⟨Ai, ci, rfl, hS, hA⟩ := hr
  exact ⟨Ai, ci, ⟨Ai, ci, rfl, hS, hA⟩, hc 0 _ rfl, hc 1 _ rfl, hc 2 _ rfl, hc 3 _ rfl, hc 4 _ rfl⟩

theorem wrapi64 {x : Int} (h0 : -9223372036854775808 ≤ x) (h1 : x < 9223372036854775808) : IntKind.i64.wrap x = x := by
  rw [IntKind.wrap_i64]
  omega
def cmpI (a b : Int) : Int := if a < b then -1 else if b < a then 1 else 0
theorem gNaN_any (a : Int) (w : World) : Calls Tryd.prog 57 #[.int .i64 a] w fun e w' => e = .returned (.bool false) ∧ Below w.heap.size w w' := by
  go_enter Tryd.func57, Tryd.ntmps57
  go_wp2
  go_ret
  go_tidy
  exact ⟨by simp, Below.refl _ _⟩
theorem gCompare_any (a b : Int) (w : World) : Calls Tryd.prog 37 #[.int .i64 a, .int .i64 b] w fun e w' => e = .returned (.int .i64 (cmpI a b)) ∧ Below w.heap.size w w' := by
  obtain ⟨d, hd⟩ : ∃ x, Hid (x = cmpI a b) := ⟨_, rfl⟩
  rw [← hd.out]
  go_enter Tryd.func37, Tryd.ntmps37
  go_wp2_with fail
  refine (gNaN_any a w).mono ?_
  rintro e w1 ⟨rfl, b1⟩
  go_wp2_with fail
  refine (gNaN_any b w1).mono ?_
  rintro e w2 ⟨rfl, b2⟩
  replace b1 := b1.trans (b2.mono b1.size)
  by_cases h1 : a < b
  · have e1 : d = -1 := by rw [hd.out, cmpI, if_pos h1]
    subst e1
    clear hd
    go_wp2
    go_ret
    exact ⟨rfl, b1⟩
  · by_cases h2 : b < a
    · have e1 : d = 1 := by rw [hd.out, cmpI, if_neg h1, if_pos h2]
      subst e1
      clear hd
      go_wp2
      go_ret
      exact ⟨rfl, b1⟩
    · have e1 : d = 0 := by rw [hd.out, cmpI, if_neg h1, if_neg h2]
      subst e1
      clear hd
      go_wp2
      go_ret
      exact ⟨rfl, b1⟩

set_option maxHeartbeats 1000000 in
theorem gAll1_any (x y : Fp) (A1 A2 : Option Addr) (c1 c2 : Nat) (w : World) : Calls Tryd.prog 36 #[.agg #[.int .i64 x.r.k, .int .i64 x.r.s, .slice A1 x.r.l.length c1, .int .i64 x.zn, .int .i64 x.at_], .agg #[.int .i64 y.r.k, .int .i64 y.r.s, .slice A2 y.r.l.length c2, .int .i64 y.zn, .int .i64 y.at_]] w fun e w' => e = .returned (.int .i64 (cmpI x.r.s y.r.s)) ∧ Below w.heap.size w w' := by
  have a0 := ((Below.refl w.heap.size w).alloc (Nat.le_refl _) (.cells #[.int .i64 x.r.k, .int .i64 x.r.s, .slice A1 x.r.l.length c1, .int .i64 x.zn, .int .i64 x.at_] 28)).alloc (by simp) (.cells #[.int .i64 y.r.k, .int .i64 y.r.s, .slice A2 y.r.l.length c2, .int .i64 y.zn, .int .i64 y.at_] 28)
  have B0 := (Blk.new w #[.int .i64 x.r.k, .int .i64 x.r.s, .slice A1 x.r.l.length c1, .int .i64 x.zn, .int .i64 x.at_] 28).alloc (.cells #[.int .i64 y.r.k, .int .i64 y.r.s, .slice A2 y.r.l.length c2, .int .i64 y.zn, .int .i64 y.at_] 28)
  have B1 := Blk.new (w.alloc (.cells #[.int .i64 x.r.k, .int .i64 x.r.s, .slice A1 x.r.l.length c1, .int .i64 x.zn, .int .i64 x.at_] 28)) #[.int .i64 y.r.k, .int .i64 y.r.s, .slice A2 y.r.l.length c2, .int .i64 y.zn, .int .i64 y.at_] 28
  simp only [World.size_alloc] at B1
  obtain ⟨p0, p1, p2, p3, p4, _⟩ := B0.five
  obtain ⟨q0, q1, q2, q3, q4, _⟩ := B1.five
  go_enter Tryd.func36, Tryd.ntmps36
  go_wp2_with fail
  generalize ((w.alloc (.cells #[.int .i64 x.r.k, .int .i64 x.r.s, .slice A1 x.r.l.length c1, .int .i64 x.zn, .int .i64 x.at_] 28)).alloc (.cells #[.int .i64 y.r.k, .int .i64 y.r.s, .slice A2 y.r.l.length c2, .int .i64 y.zn, .int .i64 y.at_] 28)) = w0 at *
  refine (gCompare_any x.r.s y.r.s w0).mono ?_
  rintro e w1 ⟨rfl, b1⟩
  clear p0 p1 p2 p3 p4 q0 q1 q2 q3 q4
  go_wp2
  go_ret
  exact ⟨rfl, a0.trans (b1.mono a0.size)⟩

/-- All blocks but g are as they were, and nothing but blocks has changed. -/
structure Bts (g : Nat) (w w' : World) : Prop where
  but : But g w w'
  low : Below 0 w w'
theorem Bts.refl (g : Nat) (w : World) : Bts g w w := ⟨But.refl _ _, Below.refl _ _⟩
theorem Bts.drew {g : Nat} {w w' : World} (h : Bts g w w') : Bts g w w'.drew := ⟨h.but.drew, h.low.drew⟩
theorem Bts.call {g : Nat} {w w' w2 : World} (h : Bts g w w') (b : Below w'.heap.size w' w2) : Bts g w w2 := ⟨h.but.call b, h.low.trans (b.mono (Nat.zero_le _))⟩
theorem Bts.set {g : Nat} {w w' : World} (h : Bts g w w') (i : Nat) (u : Value) : Bts g w (w'.setCell ⟨g, i, none⟩ u) := ⟨h.but.set i u, h.low.setCell (Nat.zero_le _) u⟩
theorem Bts.trans {g : Nat} {w w' w2 : World} (h : Bts g w w') (k : Bts g w' w2) : Bts g w w2 := ⟨⟨Nat.le_trans h.but.size k.but.size, fun i hi hg => (k.but.block i (Nat.lt_of_lt_of_le hi h.but.size) hg).trans (h.but.block i hi hg)⟩, h.low.trans k.low⟩
theorem Bts.below {g B : Nat} {w w' : World} (h : Bts g w w') (hB : B ≤ g) (hs : B ≤ w.heap.size) : Below B w w' := ⟨h.low.os, h.low.tape, h.low.output, h.but.size, fun k hk => h.but.block k (by omega) (by omega)⟩
/-- What the sorts answer: the row anew, all other blocks as they were. -/
def SortPost (F : Nat → Prop) (w : World) (g : Nat) (ys : List Fp) (e : Ending) (w' : World) : Prop := e = .returned (.tuple #[]) ∧ Ro fndE F 28 w' g ys ∧ Bts g w w'

set_option maxHeartbeats 4000000 in
theorem gIns_any {F : Nat → Prop} (g : Nat) (n c : Nat) (xs : List Fp) (a b : Nat) (w : World) (h : Ro fndE F 28 w g xs) (hn : xs.length = n) (hc : n ≤ c) (hcb : c ≤ 9223372036854775807) (hab : a ≤ b) (hbn : b ≤ n) (hn2 : n ≤ 4611686018427387904) :
    Calls Tryd.prog 69 #[.slice (some ⟨g, 0, none⟩) n c, .int .i64 (a : Int), .int .i64 (b : Int), .func (.func 36) #[] #[]] w (SortPost F w g (xs.take a ++ (sortK seqK ((xs.take b).drop a) ++ xs.drop b))) := by
  obtain ⟨ys, hys⟩ : ∃ y, Hid (y = xs.take a ++ (sortK seqK ((xs.take b).drop a) ++ xs.drop b)) := ⟨_, rfl⟩
  rw [← hys.out]
  have hL1 : Hid (xs = xs.take a ++ (sortK seqK ((xs.drop a).take 1) ++ xs.drop (a + 1))) := by
    show xs = _
    have e1 : sortK seqK ((xs.drop a).take 1) = (xs.drop a).take 1 := by
      rcases hd : (xs.drop a) with _ | ⟨z, zs⟩ <;> simp [sortK, insK]
    rw [e1, show a + 1 = a + 1 from rfl, ← List.drop_drop, List.take_append_drop, List.take_append_drop]
  go_enter Tryd.func69, Tryd.ntmps69
  go_wp2_with fail
  go_loopg [8] (b - a) (fun gk iv wr => ∃ (i m : Nat) (L : List Fp), 1 ≤ m ∧ m + gk = b - a + 1 ∧ Hid (i = a + m) ∧ Hid (a < b → m ≤ b - a) ∧ iv = .int .i64 (i : Int) ∧ Hid (L = xs.take a ++ (sortK seqK ((xs.drop a).take m) ++ xs.drop (a + m))) ∧ Ro fndE F 28 wr g L ∧ Bts g w wr)
  case atStart => exact ⟨a + 1, 1, xs, Nat.le_refl _, by omega, rfl, fun h => by omega, by first | rfl | (simp; done), hL1, h, Bts.refl _ _⟩
  case round =>
    clear h
    obtain ⟨i, m, L, hm1, hmg, hi, hmb, rfl, hL, hR, hu⟩ := hrel
    by_cases hlt : (i : Int) < (b : Int)
    · obtain ⟨gq, rfl⟩ : ∃ q, gk = q + 1 := ⟨gk - 1, by have := hi.out; omega⟩
      have hlt2 : a + m < xs.length := by have := hi.out; omega
      have hmn : m < n := by omega
      obtain ⟨x, hx⟩ : ∃ x, xs[a + m]? = some x := ⟨_, List.getElem?_eq_getElem hlt2⟩
      obtain ⟨S, hS⟩ : ∃ S, Hid (S = sortK seqK ((xs.drop a).take m)) := ⟨_, rfl⟩
      have hSl : S.length = m := by rw [hS.out, sortK_length, List.length_take, List.length_drop]; omega
      have hSs : Aside (SortedK seqK S) := by
        show SortedK seqK S
        rw [hS.out]
        exact sortK_sorted _ _
      have hpl : (xs.take a).length = a := by rw [List.length_take]; omega
      have hL2 : L = stK (xs.take a) S (xs.drop (a + m + 1)) x m := by
        have e1 : S.take m = S := List.take_of_length_le (by omega)
        have e2 : S.drop m = [] := List.drop_of_length_le (by omega)
        have e3 : xs.drop (a + m) = x :: xs.drop (a + m + 1) := by
          obtain ⟨_, hx2⟩ := List.getElem?_eq_some_iff.1 hx
          rw [List.drop_eq_getElem_cons hlt2, hx2]
        rw [hL.out, stK, ← hS.out, e1, e2, e3]
        simp
      subst hL2
      have hin : Hid (∀ p, p ≤ m → S.take p ++ x :: S.drop p = insK seqK S x → stK (xs.take a) S (xs.drop (a + m + 1)) x p = xs.take a ++ (sortK seqK ((xs.drop a).take (m + 1)) ++ xs.drop (a + (m + 1)))) := by
        show ∀ p, _
        intro p hp e
        rw [stK, e, List.take_add_one, List.getElem?_drop, hx, Option.toList_some, sortK_snoc, ← hS.out]
        rfl
      have hal0 : Aside (∀ y ∈ S.drop m, seqK x < seqK y) := by
        show ∀ y ∈ S.drop m, _
        rw [List.drop_of_length_le (by omega)]
        intro y hy
        cases hy
      have hlen0 : ∀ p, (stK (xs.take a) S (xs.drop (a + m + 1)) x p).length = n := fun p => by
        rw [stK_length, hpl, hSl, List.length_drop]
        omega
      have hlen : Hid (∀ p, (stK (xs.take a) S (xs.drop (a + m + 1)) x p).length = n) := hlen0
      clear hlen0
      have hib : i < n := by omega
      clear hL hx hS
      go_wp2_with fail
      go_loopg [9] m (fun gp jv wr => ∃ (p jj : Nat), p = gp ∧ p ≤ m ∧ Hid (jj = a + p) ∧ jv = .int .i64 (jj : Int) ∧ Aside (∀ y ∈ S.drop p, seqK x < seqK y) ∧ Ro fndE F 28 wr g (stK (xs.take a) S (xs.drop (a + m + 1)) x p) ∧ Bts g w wr)
      case atStart => exact ⟨m, i, rfl, Nat.le_refl _, hi, rfl, hal0, hR, hu⟩
      case round =>
        clear hal0 hR hu
        obtain ⟨p, jj, rfl, hpm, hjj, rfl, hal, hR, hu⟩ := hrel
        rcases Nat.eq_zero_or_pos p with hp0 | hp0
        · subst hp0
          obtain rfl : a = jj := by have := hjj.out; omega
          have hLn : Hid (stK (xs.take a) S (xs.drop (a + m + 1)) x 0 = xs.take a ++ (sortK seqK ((xs.drop a).take (m + 1)) ++ xs.drop (a + (m + 1)))) := hin.out 0 (by omega) (insK_at seqK hSs.out (by omega) hal.out (fun q y e => by omega))
          clear hin hal hSs hlen
          go_wp2_with fail
          refine wp_region_held_drew (S := fun w' => Below wr.heap.size wr w') (by kernel_rfl) (Below.refl _ _).drew (fun hHeld => ?_)
          try dsimp only at hHeld
          have bd : Below wr.heap.size wr wr.drew := (Below.refl wr.heap.size wr).drew
          generalize wr.drew = wd at *
          try simp only [Act.put, List.setIfInBounds_toArray, List.set_cons_zero, List.set_cons_succ]
          refine wpAnyH_take (i := 0) (v := ?_) (by simp only [List.getElem?_toArray, List.getElem?_cons_zero]; rfl) (by kernel_rfl) (by kernel_rfl) (by kernel_rfl) (by intro _ _ _ h; exact h) (Or.inl ⟨by rfl, ?_⟩) hHeld ?_
          rotate_left 1
          · intro wq hSw
            try dsimp only at hSw
            go_simp
            try (with_reducible rfl)
          try simp only [Act.put, List.setIfInBounds_toArray, List.set_cons_zero, List.set_cons_succ]
          refine wpAnyH_take (i := 1) (v := ?_) (by simp only [List.getElem?_toArray, List.getElem?_cons_succ, List.getElem?_cons_zero]; rfl) (by kernel_rfl) (by kernel_rfl) (by kernel_rfl) (by intro _ _ _ h; exact h) (Or.inl ⟨by rfl, ?_⟩) hHeld ?_
          rotate_left 1
          · intro wq hSw
            try dsimp only at hSw
            go_simp
            try (with_reducible rfl)
          try simp only [Act.put, List.setIfInBounds_toArray, List.set_cons_zero, List.set_cons_succ]
          refine wpAnyH_take (i := 2) (v := .bool false) (by simp only [List.getElem?_toArray, List.getElem?_cons_succ, List.getElem?_cons_zero]; rfl) (by kernel_rfl) (by kernel_rfl) (by kernel_rfl) (by intro _ _ _ h; exact h) (Or.inl ⟨by rfl, ?_⟩) hHeld ?_
          · intro wq hSw
            try dsimp only at hSw
            go_simp
            all_goals (first | (with_reducible rfl) | omega | (simp; done) | (simp; omega))
          try simp only [Act.put, List.setIfInBounds_toArray, List.set_cons_zero, List.set_cons_succ]
          refine wpAnyH_take (i := 3) (v := ?_) (by simp only [List.getElem?_toArray, List.getElem?_cons_succ, List.getElem?_cons_zero]; rfl) (by kernel_rfl) (by kernel_rfl) (by kernel_rfl) (by intro _ _ _ h; exact h) (Or.inl ⟨by rfl, ?_⟩) hHeld ?_
          rotate_left 1
          · intro wq hSw
            try dsimp only at hSw
            go_simp
            try (with_reducible rfl)
          try simp only [Act.put, List.setIfInBounds_toArray, List.set_cons_zero, List.set_cons_succ]
          refine wpAnyH_take (i := 4) (v := undef) (by simp only [List.getElem?_toArray, List.getElem?_cons_succ, List.getElem?_cons_zero]; rfl) (by kernel_rfl) (by kernel_rfl) (by kernel_rfl) (by intro _ _ _ h; exact h) (Or.inr ⟨by rfl, rfl⟩) hHeld ?_
          try simp only [Act.put, List.setIfInBounds_toArray, List.set_cons_zero, List.set_cons_succ]
          refine wpAnyH_take (i := 5) (v := undef) (by simp only [List.getElem?_toArray, List.getElem?_cons_succ, List.getElem?_cons_zero]; rfl) (by kernel_rfl) (by kernel_rfl) (by kernel_rfl) (by intro _ _ _ h; exact h) (Or.inr ⟨by rfl, rfl⟩) hHeld ?_
          try simp only [Act.put, List.setIfInBounds_toArray, List.set_cons_zero, List.set_cons_succ]
          refine wpAnyH_take (i := 6) (v := undef) (by simp only [List.getElem?_toArray, List.getElem?_cons_succ, List.getElem?_cons_zero]; rfl) (by kernel_rfl) (by kernel_rfl) (by kernel_rfl) (by intro _ _ _ h; exact h) (Or.inr ⟨by rfl, rfl⟩) hHeld ?_
          try simp only [Act.put, List.setIfInBounds_toArray, List.set_cons_zero, List.set_cons_succ]
          refine wpAnyH_take (i := 7) (v := undef) (by simp only [List.getElem?_toArray, List.getElem?_cons_succ, List.getElem?_cons_zero]; rfl) (by kernel_rfl) (by kernel_rfl) (by kernel_rfl) (by intro _ _ _ h; exact h) (Or.inr ⟨by rfl, rfl⟩) hHeld ?_
          try simp only [Act.put, List.setIfInBounds_toArray, List.set_cons_zero, List.set_cons_succ]
          refine wpAnyH_take (i := 8) (v := undef) (by simp only [List.getElem?_toArray, List.getElem?_cons_succ, List.getElem?_cons_zero]; rfl) (by kernel_rfl) (by kernel_rfl) (by kernel_rfl) (by intro _ _ _ h; exact h) (Or.inr ⟨by rfl, rfl⟩) hHeld ?_
          try simp only [Act.put, List.setIfInBounds_toArray, List.set_cons_zero, List.set_cons_succ]
          refine wpAnyH_take (i := 9) (v := undef) (by simp only [List.getElem?_toArray, List.getElem?_cons_succ, List.getElem?_cons_zero]; rfl) (by kernel_rfl) (by kernel_rfl) (by kernel_rfl) (by intro _ _ _ h; exact h) (Or.inr ⟨by rfl, rfl⟩) hHeld ?_
          try simp only [Act.put, List.setIfInBounds_toArray, List.set_cons_zero, List.set_cons_succ]
          refine wpAnyH_take (i := 10) (v := undef) (by simp only [List.getElem?_toArray, List.getElem?_cons_succ, List.getElem?_cons_zero]; rfl) (by kernel_rfl) (by kernel_rfl) (by kernel_rfl) (by intro _ _ _ h; exact h) (Or.inr ⟨by rfl, rfl⟩) hHeld ?_
          try simp only [Act.put, List.setIfInBounds_toArray, List.set_cons_zero, List.set_cons_succ]
          refine wpAnyH_take (i := 11) (v := undef) (by simp only [List.getElem?_toArray, List.getElem?_cons_succ, List.getElem?_cons_zero]; rfl) (by kernel_rfl) (by kernel_rfl) (by kernel_rfl) (by intro _ _ _ h; exact h) (Or.inr ⟨by rfl, rfl⟩) hHeld ?_
          try simp only [Act.put, List.setIfInBounds_toArray, List.set_cons_zero, List.set_cons_succ]
          refine wpAnyH_take (i := 12) (v := undef) (by simp only [List.getElem?_toArray, List.getElem?_cons_succ, List.getElem?_cons_zero]; rfl) (by kernel_rfl) (by kernel_rfl) (by kernel_rfl) (by intro _ _ _ h; exact h) (Or.inr ⟨by rfl, rfl⟩) hHeld ?_
          try simp only [Act.put, List.setIfInBounds_toArray, List.set_cons_zero, List.set_cons_succ]
          refine wpAnyH_take (i := 13) (v := undef) (by simp only [List.getElem?_toArray, List.getElem?_cons_succ, List.getElem?_cons_zero]; rfl) (by kernel_rfl) (by kernel_rfl) (by kernel_rfl) (by intro _ _ _ h; exact h) (Or.inr ⟨by rfl, rfl⟩) hHeld ?_
          try simp only [Act.put, List.setIfInBounds_toArray, List.set_cons_zero, List.set_cons_succ]
          refine wpAnyH_take (i := 14) (v := undef) (by simp only [List.getElem?_toArray, List.getElem?_cons_succ, List.getElem?_cons_zero]; rfl) (by kernel_rfl) (by kernel_rfl) (by kernel_rfl) (by intro _ _ _ h; exact h) (Or.inr ⟨by rfl, rfl⟩) hHeld ?_
          try simp only [Act.put, List.setIfInBounds_toArray, List.set_cons_zero, List.set_cons_succ]
          refine wpAnyH_take (i := 15) (v := undef) (by simp only [List.getElem?_toArray, List.getElem?_cons_succ, List.getElem?_cons_zero]; rfl) (by kernel_rfl) (by kernel_rfl) (by kernel_rfl) (by intro _ _ _ h; exact h) (Or.inr ⟨by rfl, rfl⟩) hHeld ?_
          try simp only [Act.put, List.setIfInBounds_toArray, List.set_cons_zero, List.set_cons_succ]
          refine wpAnyH_take (i := 16) (v := ?_) (by simp only [List.getElem?_toArray, List.getElem?_cons_succ, List.getElem?_cons_zero]; rfl) (by kernel_rfl) (by kernel_rfl) (by kernel_rfl) (by intro _ _ _ h; exact h) (Or.inl ⟨by rfl, ?_⟩) hHeld ?_
          rotate_left 1
          · intro wq hSw
            try dsimp only at hSw
            go_simp
            try (with_reducible rfl)
          try simp only [Act.put, List.setIfInBounds_toArray, List.set_cons_zero, List.set_cons_succ]
          refine wpAnyH_done (by kernel_rfl) ?_ _
          replace hR := hR.under bd
          replace hu := hu.call bd
          clear bd
          go_wp2
          go_roundg gq
          case measure => omega
          case rel => exact ⟨i + 1, m + 1, _, by omega, by omega, by have := hi.out; show i + 1 = a + (m + 1); omega, fun _ => by have := hi.out; omega, by first | rfl | (simp; done) | (simp; omega), hLn, hR, hu⟩
        · obtain ⟨q, rfl⟩ : ∃ q, p = q + 1 := ⟨p - 1, by omega⟩
          obtain ⟨y, hyq'⟩ : ∃ y, S[q]? = some y := ⟨_, List.getElem?_eq_getElem (by omega)⟩
          obtain ⟨j, hj'⟩ : ∃ j, j = a + q := ⟨_, rfl⟩
          have hj1 : j + 1 < n := by omega
          have hxg' := stK_x (xs.take a) S (xs.drop (a + m + 1)) x (show q + 1 ≤ S.length by omega)
          have hyg' := stK_y (xs.take a) S (xs.drop (a + m + 1)) x (show q + 1 ≤ S.length by omega)
          have hst' := stK_step (xs.take a) S (xs.drop (a + m + 1)) x y hyq'
          rw [hpl, show a + (q + 1) = j + 1 by omega] at hxg'
          rw [hpl, ← hj', hyq'] at hyg'
          rw [hpl, ← hj'] at hst'
          have hxg : Aside ((stK (xs.take a) S (xs.drop (a + m + 1)) x (q + 1))[j + 1]? = some x) := hxg'
          have hyg : Aside ((stK (xs.take a) S (xs.drop (a + m + 1)) x (q + 1))[j]? = some y) := hyg'
          have hstep : Hid (((stK (xs.take a) S (xs.drop (a + m + 1)) x (q + 1)).set (j + 1) y).set j x = stK (xs.take a) S (xs.drop (a + m + 1)) x q) := hst'
          have hjl' : j + 1 < (stK (xs.take a) S (xs.drop (a + m + 1)) x (q + 1)).length := by rw [hlen.out]; omega
          have hjl := Lib.hid hjl'
          have hzg : Aside (((stK (xs.take a) S (xs.drop (a + m + 1)) x (q + 1)).set (j + 1) y)[j]? = some y) := by
            show _ = some y
            rw [List.getElem?_set, if_neg (by omega)]
            exact hyg'
          obtain rfl : jj = j + 1 := by have := hjj.out; omega
          have hjq : Hid (j = a + q) := hj'
          have haj : a ≤ j := by omega
          have hyq : Aside (S[q]? = some y) := hyq'
          clear hxg' hyg' hst' hjl' hyq' hj'
          obtain ⟨Ax, cx, _, x0, x1, x2, x3, x4⟩ := Ro.fnd_at hR hxg.out
          obtain ⟨Ay, cy, _, y0, y1, y2, y3, y4⟩ := Ro.fnd_at hR hyg.out
          have hlt := hR.lt
          by_cases hc1 : x.r.s < y.r.s
          · have hcmp : cmpI x.r.s y.r.s = -1 := by rw [cmpI, if_pos hc1]
            have hal2 : Aside (∀ z ∈ S.drop q, seqK x < seqK z) := by
              show ∀ z ∈ S.drop q, _
              obtain ⟨hq1, hq2⟩ := List.getElem?_eq_some_iff.1 hyq.out
              rw [List.drop_eq_getElem_cons hq1, hq2]
              intro z hz
              rcases List.mem_cons.1 hz with rfl | hz
              · exact hc1
              · exact hal.out z hz
            clear hc1
            go_wp2_with fail
            refine wp_region_held_drew (S := fun w' => Below wr.heap.size wr w') (by kernel_rfl) (Below.refl _ _).drew (fun hHeld => ?_)
            try dsimp only at hHeld
            have bd : Below wr.heap.size wr wr.drew := (Below.refl wr.heap.size wr).drew
            generalize wr.drew = wd at *
            try simp only [Act.put, List.setIfInBounds_toArray, List.set_cons_zero, List.set_cons_succ]
            refine wpAnyH_take (i := 0) (v := ?_) (by simp only [List.getElem?_toArray, List.getElem?_cons_zero]; rfl) (by kernel_rfl) (by kernel_rfl) (by kernel_rfl) (by intro _ _ _ h; exact h) (Or.inl ⟨by rfl, ?_⟩) hHeld ?_
            rotate_left 1
            · intro wq hSw
              try dsimp only at hSw
              go_simp
              try (with_reducible rfl)
            try simp only [Act.put, List.setIfInBounds_toArray, List.set_cons_zero, List.set_cons_succ]
            refine wpAnyH_take (i := 1) (v := ?_) (by simp only [List.getElem?_toArray, List.getElem?_cons_succ, List.getElem?_cons_zero]; rfl) (by kernel_rfl) (by kernel_rfl) (by kernel_rfl) (by intro _ _ _ h; exact h) (Or.inl ⟨by rfl, ?_⟩) hHeld ?_
            rotate_left 1
            · intro wq hSw
              try dsimp only at hSw
              go_simp
              try (with_reducible rfl)
            try simp only [Act.put, List.setIfInBounds_toArray, List.set_cons_zero, List.set_cons_succ]
            refine wpAnyH_take (i := 2) (v := .bool true) (by simp only [List.getElem?_toArray, List.getElem?_cons_succ, List.getElem?_cons_zero]; rfl) (by kernel_rfl) (by kernel_rfl) (by kernel_rfl) (by intro _ _ _ h; exact h) (Or.inl ⟨by rfl, ?_⟩) hHeld ?_
            · intro wq hSw
              try dsimp only at hSw
              go_simp
              all_goals (first | (with_reducible rfl) | omega | (simp; done) | (simp; omega))
            try simp only [Act.put, List.setIfInBounds_toArray, List.set_cons_zero, List.set_cons_succ]
            refine wpAnyH_take (i := 3) (v := ?_) (by simp only [List.getElem?_toArray, List.getElem?_cons_succ, List.getElem?_cons_zero]; rfl) (by kernel_rfl) (by kernel_rfl) (by kernel_rfl) (by intro _ _ _ h; exact h) (Or.inl ⟨by rfl, ?_⟩) hHeld ?_
            rotate_left 1
            · intro wq hSw
              try dsimp only at hSw
              go_simp
              try (with_reducible rfl)
            try simp only [Act.put, List.setIfInBounds_toArray, List.set_cons_zero, List.set_cons_succ]
            refine wpAnyH_take (i := 4) (v := ?_) (by simp only [List.getElem?_toArray, List.getElem?_cons_succ, List.getElem?_cons_zero]; rfl) (by kernel_rfl) (by kernel_rfl) (by kernel_rfl) (by intro _ _ _ h; exact h) (Or.inl ⟨by rfl, ?_⟩) hHeld ?_
            rotate_left 1
            · intro wq hSw
              try dsimp only at hSw
              go_simp
              try (with_reducible rfl)
            try simp only [Act.put, List.setIfInBounds_toArray, List.set_cons_zero, List.set_cons_succ]
            refine wpAnyH_take (i := 5) (v := ?_) (by simp only [List.getElem?_toArray, List.getElem?_cons_succ, List.getElem?_cons_zero]; rfl) (by kernel_rfl) (by kernel_rfl) (by kernel_rfl) (by intro _ _ _ h; exact h) (Or.inl ⟨by rfl, ?_⟩) hHeld ?_
            rotate_left 1
            · intro wq hSw
              try dsimp only at hSw
              go_simp
              try (with_reducible rfl)
            try simp only [Act.put, List.setIfInBounds_toArray, List.set_cons_zero, List.set_cons_succ]
            refine wpAnyH_take (i := 6) (v := ?_) (by simp only [List.getElem?_toArray, List.getElem?_cons_succ, List.getElem?_cons_zero]; rfl) (by kernel_rfl) (by kernel_rfl) (by kernel_rfl) (by intro _ _ _ h; exact h) (Or.inl ⟨by rfl, ?_⟩) hHeld ?_
            rotate_left 1
            · intro wq hSw
              try dsimp only at hSw
              go_simp
              try (with_reducible rfl)
            try simp only [Act.put, List.setIfInBounds_toArray, List.set_cons_zero, List.set_cons_succ]
            refine wpAnyH_take (i := 7) (v := .pointer (some ⟨g, (j + 1) * 5, none⟩)) (by simp only [List.getElem?_toArray, List.getElem?_cons_succ, List.getElem?_cons_zero]; rfl) (by kernel_rfl) (by kernel_rfl) (by kernel_rfl) (by intro _ _ _ h; exact h) (Or.inl ⟨by rfl, ?_⟩) hHeld ?_
            · intro wq hSw
              try dsimp only at hSw
              go_simp
              all_goals (first | (with_reducible rfl) | (intro hh; exfalso; omega))
            try simp only [Act.put, List.setIfInBounds_toArray, List.set_cons_zero, List.set_cons_succ]
            refine wpAnyH_take (i := 8) (v := ?_) (by simp only [List.getElem?_toArray, List.getElem?_cons_succ, List.getElem?_cons_zero]; rfl) (by kernel_rfl) (by kernel_rfl) (by kernel_rfl) (by intro _ _ _ h; exact h) (Or.inl ⟨by rfl, ?_⟩) hHeld ?_
            rotate_left 1
            · intro wq hSw
              try dsimp only at hSw
              have x0' := (hSw.cell hlt).trans x0
              have x1' := (hSw.cell hlt).trans x1
              have x2' := (hSw.cell hlt).trans x2
              have x3' := (hSw.cell hlt).trans x3
              have x4' := (hSw.cell hlt).trans x4
              go_simp
              try (with_reducible rfl)
            try simp only [Act.put, List.setIfInBounds_toArray, List.set_cons_zero, List.set_cons_succ]
            refine wpAnyH_take (i := 9) (v := ?_) (by simp only [List.getElem?_toArray, List.getElem?_cons_succ, List.getElem?_cons_zero]; rfl) (by kernel_rfl) (by kernel_rfl) (by kernel_rfl) (by intro _ _ _ h; exact h) (Or.inl ⟨by rfl, ?_⟩) hHeld ?_
            rotate_left 1
            · intro wq hSw
              try dsimp only at hSw
              go_simp
              try (with_reducible rfl)
            try simp only [Act.put, List.setIfInBounds_toArray, List.set_cons_zero, List.set_cons_succ]
            refine wpAnyH_take (i := 10) (v := ?_) (by simp only [List.getElem?_toArray, List.getElem?_cons_succ, List.getElem?_cons_zero]; rfl) (by kernel_rfl) (by kernel_rfl) (by kernel_rfl) (by intro _ _ _ h; exact h) (Or.inl ⟨by rfl, ?_⟩) hHeld ?_
            rotate_left 1
            · intro wq hSw
              try dsimp only at hSw
              go_simp
              try (with_reducible rfl)
            try simp only [Act.put, List.setIfInBounds_toArray, List.set_cons_zero, List.set_cons_succ]
            refine wpAnyH_take (i := 11) (v := .int .i64 (j : Int)) (by simp only [List.getElem?_toArray, List.getElem?_cons_succ, List.getElem?_cons_zero]; rfl) (by kernel_rfl) (by kernel_rfl) (by kernel_rfl) (by intro _ _ _ h; exact h) (Or.inl ⟨by rfl, ?_⟩) hHeld ?_
            · intro wq hSw
              try dsimp only at hSw
              go_simp
              all_goals (first | (with_reducible rfl) | (rw [wrapi64 (by omega) (by omega)]) | exact wrapi64 (by omega) (by omega))
            try simp only [Act.put, List.setIfInBounds_toArray, List.set_cons_zero, List.set_cons_succ]
            refine wpAnyH_take (i := 12) (v := .pointer (some ⟨g, j * 5, none⟩)) (by simp only [List.getElem?_toArray, List.getElem?_cons_succ, List.getElem?_cons_zero]; rfl) (by kernel_rfl) (by kernel_rfl) (by kernel_rfl) (by intro _ _ _ h; exact h) (Or.inl ⟨by rfl, ?_⟩) hHeld ?_
            · intro wq hSw
              try dsimp only at hSw
              go_simp
              all_goals (first | (with_reducible rfl) | (intro hh; exfalso; omega))
            try simp only [Act.put, List.setIfInBounds_toArray, List.set_cons_zero, List.set_cons_succ]
            refine wpAnyH_take (i := 13) (v := ?_) (by simp only [List.getElem?_toArray, List.getElem?_cons_succ, List.getElem?_cons_zero]; rfl) (by kernel_rfl) (by kernel_rfl) (by kernel_rfl) (by intro _ _ _ h; exact h) (Or.inl ⟨by rfl, ?_⟩) hHeld ?_
            rotate_left 1
            · intro wq hSw
              try dsimp only at hSw
              have y0' := (hSw.cell hlt).trans y0
              have y1' := (hSw.cell hlt).trans y1
              have y2' := (hSw.cell hlt).trans y2
              have y3' := (hSw.cell hlt).trans y3
              have y4' := (hSw.cell hlt).trans y4
              go_simp
              try (with_reducible rfl)
            try simp only [Act.put, List.setIfInBounds_toArray, List.set_cons_zero, List.set_cons_succ]
            refine wpAnyH_ready (rs := [14]) (by kernel_rfl) (by simp) ?_
            refine AllReadyH.cons (by simp only [List.getElem?_toArray, List.getElem?_cons_succ, List.getElem?_cons_zero]; rfl) (fun K hK => ?_) AllReadyH.nil
            have hC := gAll1_any x y Ax Ay cx cy wd
            go_simp
            refine hC.mono ?_
            clear hC
            rintro e w2 ⟨rfl, b2⟩
            rw [hcmp]
            go_wp2_with fail
            refine hK.out _ _ (bd.trans (b2.mono bd.size)) (fun hHeld => ?_)
            clear hK K
            try dsimp only at hHeld
            try simp only [Act.put, List.setIfInBounds_toArray, List.set_cons_zero, List.set_cons_succ]
            refine wpAnyH_take (i := 15) (v := ?_) (by simp only [List.getElem?_toArray, List.getElem?_cons_succ, List.getElem?_cons_zero]; rfl) (by kernel_rfl) (by kernel_rfl) (by kernel_rfl) (by intro _ _ _ h; exact h) (Or.inl ⟨by rfl, ?_⟩) hHeld ?_
            rotate_left 1
            · intro wq hSw
              try dsimp only at hSw
              go_simp
              try (with_reducible rfl)
            try simp only [Act.put, List.setIfInBounds_toArray, List.set_cons_zero, List.set_cons_succ]
            refine wpAnyH_take (i := 16) (v := ?_) (by simp only [List.getElem?_toArray, List.getElem?_cons_succ, List.getElem?_cons_zero]; rfl) (by kernel_rfl) (by kernel_rfl) (by kernel_rfl) (by intro _ _ _ h; exact h) (Or.inl ⟨by rfl, ?_⟩) hHeld ?_
            rotate_left 1
            · intro wq hSw
              try dsimp only at hSw
              go_simp
              try (with_reducible rfl)
            try simp only [Act.put, List.setIfInBounds_toArray, List.set_cons_zero, List.set_cons_succ]
            refine wpAnyH_done (by kernel_rfl) ?_ _
            have b3 := bd.trans (b2.mono bd.size)
            replace hR := hR.under b3
            replace hu := hu.call b3
            clear x0 x1 x2 x3 x4 y0 y1 y2 y3 y4 hHeld b3 b2 bd
            go_wp2_with fail
            refine wp_region_held_drew (S := fun w' => True) (by kernel_rfl) trivial (fun hHeld => ?_)
            try dsimp only at hHeld
            replace hR := hR.drew
            replace hu := hu.drew
            generalize w2.drew = wd at *
            obtain ⟨Ax, cx, hx, x0, x1, x2, x3, x4⟩ := Ro.fnd_at hR hxg.out
            obtain ⟨Ay, cy, hy, y0, y1, y2, y3, y4⟩ := Ro.fnd_at hR hyg.out
            have xf0 := hR.frozen ((j + 1) * 5)
            have xf1 := hR.frozen ((j + 1) * 5 + 1)
            have xf2 := hR.frozen ((j + 1) * 5 + 2)
            have xf3 := hR.frozen ((j + 1) * 5 + 3)
            have xf4 := hR.frozen ((j + 1) * 5 + 4)
            try simp only [Act.put, List.setIfInBounds_toArray, List.set_cons_zero, List.set_cons_succ]
            refine wpAnyH_take (i := 0) (v := ?_) (by simp only [List.getElem?_toArray, List.getElem?_cons_zero]; rfl) (by kernel_rfl) (by kernel_rfl) (by kernel_rfl) (by intro _ _ _ h; exact h) (Or.inl ⟨by rfl, ?_⟩) hHeld ?_
            rotate_left 1
            · intro wq hSw
              try dsimp only at hSw
              go_simp
              try (with_reducible rfl)
            try simp only [Act.put, List.setIfInBounds_toArray, List.set_cons_zero, List.set_cons_succ]
            refine wpAnyH_take (i := 1) (v := ?_) (by simp only [List.getElem?_toArray, List.getElem?_cons_succ, List.getElem?_cons_zero]; rfl) (by kernel_rfl) (by kernel_rfl) (by kernel_rfl) (by intro _ _ _ h; exact h) (Or.inl ⟨by rfl, ?_⟩) hHeld ?_
            rotate_left 1
            · intro wq hSw
              try dsimp only at hSw
              go_simp
              try (with_reducible rfl)
            try simp only [Act.put, List.setIfInBounds_toArray, List.set_cons_zero, List.set_cons_succ]
            refine wpAnyH_take (i := 2) (v := ?_) (by simp only [List.getElem?_toArray, List.getElem?_cons_succ, List.getElem?_cons_zero]; rfl) (by kernel_rfl) (by kernel_rfl) (by kernel_rfl) (by intro _ _ _ h; exact h) (Or.inl ⟨by rfl, ?_⟩) hHeld ?_
            rotate_left 1
            · intro wq hSw
              try dsimp only at hSw
              go_simp
              try (with_reducible rfl)
            try simp only [Act.put, List.setIfInBounds_toArray, List.set_cons_zero, List.set_cons_succ]
            refine wpAnyH_take (i := 3) (v := ?_) (by simp only [List.getElem?_toArray, List.getElem?_cons_succ, List.getElem?_cons_zero]; rfl) (by kernel_rfl) (by kernel_rfl) (by kernel_rfl) (by intro _ _ _ h; exact h) (Or.inl ⟨by rfl, ?_⟩) hHeld ?_
            rotate_left 1
            · intro wq hSw
              try dsimp only at hSw
              go_simp
              try (with_reducible rfl)
            try simp only [Act.put, List.setIfInBounds_toArray, List.set_cons_zero, List.set_cons_succ]
            refine wpAnyH_take (i := 4) (v := .int .i64 (j : Int)) (by simp only [List.getElem?_toArray, List.getElem?_cons_succ, List.getElem?_cons_zero]; rfl) (by kernel_rfl) (by kernel_rfl) (by kernel_rfl) (by intro _ _ _ h; exact h) (Or.inl ⟨by rfl, ?_⟩) hHeld ?_
            · intro wq hSw
              try dsimp only at hSw
              go_simp
              all_goals (first | (with_reducible rfl) | (rw [wrapi64 (by omega) (by omega)]) | exact wrapi64 (by omega) (by omega))
            try simp only [Act.put, List.setIfInBounds_toArray, List.set_cons_zero, List.set_cons_succ]
            refine wpAnyH_take (i := 5) (v := ?_) (by simp only [List.getElem?_toArray, List.getElem?_cons_succ, List.getElem?_cons_zero]; rfl) (by kernel_rfl) (by kernel_rfl) (by kernel_rfl) (by intro _ _ _ h; exact h) (Or.inl ⟨by rfl, ?_⟩) hHeld ?_
            rotate_left 1
            · intro wq hSw
              try dsimp only at hSw
              go_simp
              try (with_reducible rfl)
            try simp only [Act.put, List.setIfInBounds_toArray, List.set_cons_zero, List.set_cons_succ]
            refine wpAnyH_take (i := 6) (v := ?_) (by simp only [List.getElem?_toArray, List.getElem?_cons_succ, List.getElem?_cons_zero]; rfl) (by kernel_rfl) (by kernel_rfl) (by kernel_rfl) (by intro _ _ _ h; exact h) (Or.inl ⟨by rfl, ?_⟩) hHeld ?_
            rotate_left 1
            · intro wq hSw
              try dsimp only at hSw
              go_simp
              try (with_reducible rfl)
            try simp only [Act.put, List.setIfInBounds_toArray, List.set_cons_zero, List.set_cons_succ]
            refine wpAnyH_take (i := 7) (v := .int .i64 (j : Int)) (by simp only [List.getElem?_toArray, List.getElem?_cons_succ, List.getElem?_cons_zero]; rfl) (by kernel_rfl) (by kernel_rfl) (by kernel_rfl) (by intro _ _ _ h; exact h) (Or.inl ⟨by rfl, ?_⟩) hHeld ?_
            · intro wq hSw
              try dsimp only at hSw
              go_simp
              all_goals (first | (with_reducible rfl) | (rw [wrapi64 (by omega) (by omega)]) | exact wrapi64 (by omega) (by omega))
            try simp only [Act.put, List.setIfInBounds_toArray, List.set_cons_zero, List.set_cons_succ]
            refine wpAnyH_take (i := 8) (v := .pointer (some ⟨g, j * 5, none⟩)) (by simp only [List.getElem?_toArray, List.getElem?_cons_succ, List.getElem?_cons_zero]; rfl) (by kernel_rfl) (by kernel_rfl) (by kernel_rfl) (by intro _ _ _ h; exact h) (Or.inl ⟨by rfl, ?_⟩) hHeld ?_
            · intro wq hSw
              try dsimp only at hSw
              go_simp
              all_goals (first | (with_reducible rfl) | (intro hh; exfalso; omega))
            try simp only [Act.put, List.setIfInBounds_toArray, List.set_cons_zero, List.set_cons_succ]
            refine wpAnyH_take (i := 10) (v := ?_) (by simp only [List.getElem?_toArray, List.getElem?_cons_succ, List.getElem?_cons_zero]; rfl) (by kernel_rfl) (by kernel_rfl) (by kernel_rfl) (by intro _ _ _ h; exact h) (Or.inl ⟨by rfl, ?_⟩) hHeld ?_
            rotate_left 1
            · intro wq hSw
              try dsimp only at hSw
              go_simp
              try (with_reducible rfl)
            try simp only [Act.put, List.setIfInBounds_toArray, List.set_cons_zero, List.set_cons_succ]
            refine wpAnyH_take (i := 11) (v := ?_) (by simp only [List.getElem?_toArray, List.getElem?_cons_succ, List.getElem?_cons_zero]; rfl) (by kernel_rfl) (by kernel_rfl) (by kernel_rfl) (by intro _ _ _ h; exact h) (Or.inl ⟨by rfl, ?_⟩) hHeld ?_
            rotate_left 1
            · intro wq hSw
              try dsimp only at hSw
              go_simp
              try (with_reducible rfl)
            try simp only [Act.put, List.setIfInBounds_toArray, List.set_cons_zero, List.set_cons_succ]
            refine wpAnyH_take (i := 12) (v := .pointer (some ⟨g, (j + 1) * 5, none⟩)) (by simp only [List.getElem?_toArray, List.getElem?_cons_succ, List.getElem?_cons_zero]; rfl) (by kernel_rfl) (by kernel_rfl) (by kernel_rfl) (by intro _ _ _ h; exact h) (Or.inl ⟨by rfl, ?_⟩) hHeld ?_
            · intro wq hSw
              try dsimp only at hSw
              go_simp
              all_goals (first | (with_reducible rfl) | (intro hh; exfalso; omega))
            try simp only [Act.put, List.setIfInBounds_toArray, List.set_cons_zero, List.set_cons_succ]
            refine wpAnyH_ready (rs := [9, 13]) (by kernel_rfl) (by simp) ?_
            refine AllReadyH.cons (by simp only [List.getElem?_toArray, List.getElem?_cons_succ, List.getElem?_cons_zero]; rfl) (fun K hK => ?_) (AllReadyH.cons (by simp only [List.getElem?_toArray, List.getElem?_cons_succ, List.getElem?_cons_zero]; rfl) (fun K hK => ?_) AllReadyH.nil)
            · skip
              go_simp
              refine hK.out _ _ (trivial) (fun hHeld => ?_)
              clear hK K
              try dsimp only at hHeld
              try simp only [Act.put, List.setIfInBounds_toArray, List.set_cons_zero, List.set_cons_succ]
              refine wpAnyH_ready (rs := [13]) (by kernel_rfl) (by simp) ?_
              refine AllReadyH.cons (by simp only [List.getElem?_toArray, List.getElem?_cons_succ, List.getElem?_cons_zero]; rfl) (fun K hK => ?_) AllReadyH.nil
              go_simp
              refine hK.out _ _ (trivial) (fun hHeld => ?_)
              clear hK K
              try dsimp only at hHeld
              try simp only [Act.put, List.setIfInBounds_toArray, List.set_cons_zero, List.set_cons_succ]
              refine wpAnyH_take (i := 14) (v := .pointer (some ⟨g, (j + 1) * 5, none⟩)) (by simp only [List.getElem?_toArray, List.getElem?_cons_succ, List.getElem?_cons_zero]; rfl) (by kernel_rfl) (by kernel_rfl) (by kernel_rfl) (by intro _ _ _ h; exact h) (Or.inl ⟨by rfl, ?_⟩) hHeld ?_
              · intro wq hSw
                try dsimp only at hSw
                go_simp
                all_goals (first | (with_reducible rfl) | (intro hh; exfalso; omega))
              try simp only [Act.put, List.setIfInBounds_toArray, List.set_cons_zero, List.set_cons_succ]
              refine wpAnyH_ready (rs := [15]) (by kernel_rfl) (by simp) ?_
              refine AllReadyH.cons (by simp only [List.getElem?_toArray, List.getElem?_cons_succ, List.getElem?_cons_zero]; rfl) (fun K hK => ?_) AllReadyH.nil
              go_simp
              have R1 : Ro fndE F 28 (((((wd.setCell ⟨g, (j + 1) * 5, none⟩ (.int .i64 y.r.k)).setCell ⟨g, (j + 1) * 5 + 1, none⟩ (.int .i64 y.r.s)).setCell ⟨g, (j + 1) * 5 + 2, none⟩ (.slice Ay y.r.l.length cy)).setCell ⟨g, (j + 1) * 5 + 3, none⟩ (.int .i64 y.zn)).setCell ⟨g, (j + 1) * 5 + 4, none⟩ (.int .i64 y.at_)) g ((stK (xs.take a) S (xs.drop (a + m + 1)) x (q + 1)).set (j + 1) y) := Ro.set hR (i := j + 1) hjl.out hy
              have u1 : Bts g w (((((wd.setCell ⟨g, (j + 1) * 5, none⟩ (.int .i64 y.r.k)).setCell ⟨g, (j + 1) * 5 + 1, none⟩ (.int .i64 y.r.s)).setCell ⟨g, (j + 1) * 5 + 2, none⟩ (.slice Ay y.r.l.length cy)).setCell ⟨g, (j + 1) * 5 + 3, none⟩ (.int .i64 y.zn)).setCell ⟨g, (j + 1) * 5 + 4, none⟩ (.int .i64 y.at_)) := ((((hu.set _ _).set _ _).set _ _).set _ _).set _ _
              have hx2 : fndE.rd (fun b => F b ∧ b ≠ g) (((((wd.setCell ⟨g, (j + 1) * 5, none⟩ (.int .i64 y.r.k)).setCell ⟨g, (j + 1) * 5 + 1, none⟩ (.int .i64 y.r.s)).setCell ⟨g, (j + 1) * 5 + 2, none⟩ (.slice Ay y.r.l.length cy)).setCell ⟨g, (j + 1) * 5 + 3, none⟩ (.int .i64 y.zn)).setCell ⟨g, (j + 1) * 5 + 4, none⟩ (.int .i64 y.at_)) [.int .i64 x.r.k, .int .i64 x.r.s, .slice Ax x.r.l.length cx, .int .i64 x.zn, .int .i64 x.at_] x := fndE.keep hx (setL_but wd g ((j + 1) * 5) [.int .i64 y.r.k, .int .i64 y.r.s, .slice Ay y.r.l.length cy, .int .i64 y.zn, .int .i64 y.at_]).size (fun p hp hF => (setL_but wd g ((j + 1) * 5) [.int .i64 y.r.k, .int .i64 y.r.s, .slice Ay y.r.l.length cy, .int .i64 y.zn, .int .i64 y.at_]).cell hp hF.2)
              generalize (((((wd.setCell ⟨g, (j + 1) * 5, none⟩ (.int .i64 y.r.k)).setCell ⟨g, (j + 1) * 5 + 1, none⟩ (.int .i64 y.r.s)).setCell ⟨g, (j + 1) * 5 + 2, none⟩ (.slice Ay y.r.l.length cy)).setCell ⟨g, (j + 1) * 5 + 3, none⟩ (.int .i64 y.zn)).setCell ⟨g, (j + 1) * 5 + 4, none⟩ (.int .i64 y.at_)) = w3 at *
              refine hK.out _ _ (trivial) (fun hHeld => ?_)
              clear hK K
              try dsimp only at hHeld
              obtain ⟨Az, cz, _, z0, z1, z2, z3, z4⟩ := Ro.fnd_at R1 hzg.out
              have e0 := R1.frozen (j * 5)
              have e1 := R1.frozen (j * 5 + 1)
              have e2 := R1.frozen (j * 5 + 2)
              have e3 := R1.frozen (j * 5 + 3)
              have e4 := R1.frozen (j * 5 + 4)
              try simp only [Act.put, List.setIfInBounds_toArray, List.set_cons_zero, List.set_cons_succ]
              refine wpAnyH_take (i := 16) (v := .pointer (some ⟨g, j * 5, none⟩)) (by simp only [List.getElem?_toArray, List.getElem?_cons_succ, List.getElem?_cons_zero]; rfl) (by kernel_rfl) (by kernel_rfl) (by kernel_rfl) (by intro _ _ _ h; exact h) (Or.inl ⟨by rfl, ?_⟩) hHeld ?_
              · intro wq hSw
                try dsimp only at hSw
                go_simp
                all_goals (first | (with_reducible rfl) | (intro hh; exfalso; omega))
              try simp only [Act.put, List.setIfInBounds_toArray, List.set_cons_zero, List.set_cons_succ]
              refine wpAnyH_ready (rs := [17]) (by kernel_rfl) (by simp) ?_
              refine AllReadyH.cons (by simp only [List.getElem?_toArray, List.getElem?_cons_succ, List.getElem?_cons_zero]; rfl) (fun K hK => ?_) AllReadyH.nil
              go_simp
              have R2 : Ro fndE F 28 (((((w3.setCell ⟨g, j * 5, none⟩ (.int .i64 x.r.k)).setCell ⟨g, j * 5 + 1, none⟩ (.int .i64 x.r.s)).setCell ⟨g, j * 5 + 2, none⟩ (.slice Ax x.r.l.length cx)).setCell ⟨g, j * 5 + 3, none⟩ (.int .i64 x.zn)).setCell ⟨g, j * 5 + 4, none⟩ (.int .i64 x.at_)) g (((stK (xs.take a) S (xs.drop (a + m + 1)) x (q + 1)).set (j + 1) y).set j x) := Ro.set R1 (i := j) (by rw [List.length_set]; have := hjl.out; omega) hx2
              have u2 : Bts g w (((((w3.setCell ⟨g, j * 5, none⟩ (.int .i64 x.r.k)).setCell ⟨g, j * 5 + 1, none⟩ (.int .i64 x.r.s)).setCell ⟨g, j * 5 + 2, none⟩ (.slice Ax x.r.l.length cx)).setCell ⟨g, j * 5 + 3, none⟩ (.int .i64 x.zn)).setCell ⟨g, j * 5 + 4, none⟩ (.int .i64 x.at_)) := ((((u1.set _ _).set _ _).set _ _).set _ _).set _ _
              rw [hstep.out] at R2
              clear z0 z1 z2 z3 z4 e0 e1 e2 e3 e4 R1 u1
              generalize (((((w3.setCell ⟨g, j * 5, none⟩ (.int .i64 x.r.k)).setCell ⟨g, j * 5 + 1, none⟩ (.int .i64 x.r.s)).setCell ⟨g, j * 5 + 2, none⟩ (.slice Ax x.r.l.length cx)).setCell ⟨g, j * 5 + 3, none⟩ (.int .i64 x.zn)).setCell ⟨g, j * 5 + 4, none⟩ (.int .i64 x.at_)) = w4 at *
              refine hK.out _ _ (trivial) (fun hHeld => ?_)
              clear hK K
              try dsimp only at hHeld
              try simp only [Act.put, List.setIfInBounds_toArray, List.set_cons_zero, List.set_cons_succ]
              refine wpAnyH_done (by kernel_rfl) ?_ _
              go_wp2
              go_roundg q
              case measure => omega
              case rel => exact ⟨q, j, rfl, by omega, hjq, by first | rfl | (simp; done), hal2, R2, u2⟩
            · skip
              go_simp
              refine hK.out _ _ (trivial) (fun hHeld => ?_)
              clear hK K
              try dsimp only at hHeld
              try simp only [Act.put, List.setIfInBounds_toArray, List.set_cons_zero, List.set_cons_succ]
              refine wpAnyH_ready (rs := [9]) (by kernel_rfl) (by simp) ?_
              refine AllReadyH.cons (by simp only [List.getElem?_toArray, List.getElem?_cons_succ, List.getElem?_cons_zero]; rfl) (fun K hK => ?_) AllReadyH.nil
              go_simp
              refine hK.out _ _ (trivial) (fun hHeld => ?_)
              clear hK K
              try dsimp only at hHeld
              try simp only [Act.put, List.setIfInBounds_toArray, List.set_cons_zero, List.set_cons_succ]
              refine wpAnyH_take (i := 14) (v := .pointer (some ⟨g, (j + 1) * 5, none⟩)) (by simp only [List.getElem?_toArray, List.getElem?_cons_succ, List.getElem?_cons_zero]; rfl) (by kernel_rfl) (by kernel_rfl) (by kernel_rfl) (by intro _ _ _ h; exact h) (Or.inl ⟨by rfl, ?_⟩) hHeld ?_
              · intro wq hSw
                try dsimp only at hSw
                go_simp
                all_goals (first | (with_reducible rfl) | (intro hh; exfalso; omega))
              try simp only [Act.put, List.setIfInBounds_toArray, List.set_cons_zero, List.set_cons_succ]
              refine wpAnyH_ready (rs := [15]) (by kernel_rfl) (by simp) ?_
              refine AllReadyH.cons (by simp only [List.getElem?_toArray, List.getElem?_cons_succ, List.getElem?_cons_zero]; rfl) (fun K hK => ?_) AllReadyH.nil
              go_simp
              have R1 : Ro fndE F 28 (((((wd.setCell ⟨g, (j + 1) * 5, none⟩ (.int .i64 y.r.k)).setCell ⟨g, (j + 1) * 5 + 1, none⟩ (.int .i64 y.r.s)).setCell ⟨g, (j + 1) * 5 + 2, none⟩ (.slice Ay y.r.l.length cy)).setCell ⟨g, (j + 1) * 5 + 3, none⟩ (.int .i64 y.zn)).setCell ⟨g, (j + 1) * 5 + 4, none⟩ (.int .i64 y.at_)) g ((stK (xs.take a) S (xs.drop (a + m + 1)) x (q + 1)).set (j + 1) y) := Ro.set hR (i := j + 1) hjl.out hy
              have u1 : Bts g w (((((wd.setCell ⟨g, (j + 1) * 5, none⟩ (.int .i64 y.r.k)).setCell ⟨g, (j + 1) * 5 + 1, none⟩ (.int .i64 y.r.s)).setCell ⟨g, (j + 1) * 5 + 2, none⟩ (.slice Ay y.r.l.length cy)).setCell ⟨g, (j + 1) * 5 + 3, none⟩ (.int .i64 y.zn)).setCell ⟨g, (j + 1) * 5 + 4, none⟩ (.int .i64 y.at_)) := ((((hu.set _ _).set _ _).set _ _).set _ _).set _ _
              have hx2 : fndE.rd (fun b => F b ∧ b ≠ g) (((((wd.setCell ⟨g, (j + 1) * 5, none⟩ (.int .i64 y.r.k)).setCell ⟨g, (j + 1) * 5 + 1, none⟩ (.int .i64 y.r.s)).setCell ⟨g, (j + 1) * 5 + 2, none⟩ (.slice Ay y.r.l.length cy)).setCell ⟨g, (j + 1) * 5 + 3, none⟩ (.int .i64 y.zn)).setCell ⟨g, (j + 1) * 5 + 4, none⟩ (.int .i64 y.at_)) [.int .i64 x.r.k, .int .i64 x.r.s, .slice Ax x.r.l.length cx, .int .i64 x.zn, .int .i64 x.at_] x := fndE.keep hx (setL_but wd g ((j + 1) * 5) [.int .i64 y.r.k, .int .i64 y.r.s, .slice Ay y.r.l.length cy, .int .i64 y.zn, .int .i64 y.at_]).size (fun p hp hF => (setL_but wd g ((j + 1) * 5) [.int .i64 y.r.k, .int .i64 y.r.s, .slice Ay y.r.l.length cy, .int .i64 y.zn, .int .i64 y.at_]).cell hp hF.2)
              generalize (((((wd.setCell ⟨g, (j + 1) * 5, none⟩ (.int .i64 y.r.k)).setCell ⟨g, (j + 1) * 5 + 1, none⟩ (.int .i64 y.r.s)).setCell ⟨g, (j + 1) * 5 + 2, none⟩ (.slice Ay y.r.l.length cy)).setCell ⟨g, (j + 1) * 5 + 3, none⟩ (.int .i64 y.zn)).setCell ⟨g, (j + 1) * 5 + 4, none⟩ (.int .i64 y.at_)) = w3 at *
              refine hK.out _ _ (trivial) (fun hHeld => ?_)
              clear hK K
              try dsimp only at hHeld
              obtain ⟨Az, cz, _, z0, z1, z2, z3, z4⟩ := Ro.fnd_at R1 hzg.out
              have e0 := R1.frozen (j * 5)
              have e1 := R1.frozen (j * 5 + 1)
              have e2 := R1.frozen (j * 5 + 2)
              have e3 := R1.frozen (j * 5 + 3)
              have e4 := R1.frozen (j * 5 + 4)
              try simp only [Act.put, List.setIfInBounds_toArray, List.set_cons_zero, List.set_cons_succ]
              refine wpAnyH_take (i := 16) (v := .pointer (some ⟨g, j * 5, none⟩)) (by simp only [List.getElem?_toArray, List.getElem?_cons_succ, List.getElem?_cons_zero]; rfl) (by kernel_rfl) (by kernel_rfl) (by kernel_rfl) (by intro _ _ _ h; exact h) (Or.inl ⟨by rfl, ?_⟩) hHeld ?_
              · intro wq hSw
                try dsimp only at hSw
                go_simp
                all_goals (first | (with_reducible rfl) | (intro hh; exfalso; omega))
              try simp only [Act.put, List.setIfInBounds_toArray, List.set_cons_zero, List.set_cons_succ]
              refine wpAnyH_ready (rs := [17]) (by kernel_rfl) (by simp) ?_
              refine AllReadyH.cons (by simp only [List.getElem?_toArray, List.getElem?_cons_succ, List.getElem?_cons_zero]; rfl) (fun K hK => ?_) AllReadyH.nil
              go_simp
              have R2 : Ro fndE F 28 (((((w3.setCell ⟨g, j * 5, none⟩ (.int .i64 x.r.k)).setCell ⟨g, j * 5 + 1, none⟩ (.int .i64 x.r.s)).setCell ⟨g, j * 5 + 2, none⟩ (.slice Ax x.r.l.length cx)).setCell ⟨g, j * 5 + 3, none⟩ (.int .i64 x.zn)).setCell ⟨g, j * 5 + 4, none⟩ (.int .i64 x.at_)) g (((stK (xs.take a) S (xs.drop (a + m + 1)) x (q + 1)).set (j + 1) y).set j x) := Ro.set R1 (i := j) (by rw [List.length_set]; have := hjl.out; omega) hx2
              have u2 : Bts g w (((((w3.setCell ⟨g, j * 5, none⟩ (.int .i64 x.r.k)).setCell ⟨g, j * 5 + 1, none⟩ (.int .i64 x.r.s)).setCell ⟨g, j * 5 + 2, none⟩ (.slice Ax x.r.l.length cx)).setCell ⟨g, j * 5 + 3, none⟩ (.int .i64 x.zn)).setCell ⟨g, j * 5 + 4, none⟩ (.int .i64 x.at_)) := ((((u1.set _ _).set _ _).set _ _).set _ _).set _ _
              rw [hstep.out] at R2
              clear z0 z1 z2 z3 z4 e0 e1 e2 e3 e4 R1 u1
              generalize (((((w3.setCell ⟨g, j * 5, none⟩ (.int .i64 x.r.k)).setCell ⟨g, j * 5 + 1, none⟩ (.int .i64 x.r.s)).setCell ⟨g, j * 5 + 2, none⟩ (.slice Ax x.r.l.length cx)).setCell ⟨g, j * 5 + 3, none⟩ (.int .i64 x.zn)).setCell ⟨g, j * 5 + 4, none⟩ (.int .i64 x.at_)) = w4 at *
              refine hK.out _ _ (trivial) (fun hHeld => ?_)
              clear hK K
              try dsimp only at hHeld
              try simp only [Act.put, List.setIfInBounds_toArray, List.set_cons_zero, List.set_cons_succ]
              refine wpAnyH_done (by kernel_rfl) ?_ _
              go_wp2
              go_roundg q
              case measure => omega
              case rel => exact ⟨q, j, rfl, by omega, hjq, by first | rfl | (simp; done), hal2, R2, u2⟩
          · obtain ⟨d, hcmp, hd0⟩ : ∃ d, cmpI x.r.s y.r.s = d ∧ 0 ≤ d := ⟨_, rfl, by rw [cmpI, if_neg hc1]; split <;> omega⟩
            have hLn : Hid (stK (xs.take a) S (xs.drop (a + m + 1)) x (q + 1) = xs.take a ++ (sortK seqK ((xs.drop a).take (m + 1)) ++ xs.drop (a + (m + 1)))) := hin.out (q + 1) (by omega) (insK_at seqK hSs.out (by omega) hal.out (fun q' y' e hy' => by
              obtain rfl : q' = q := by omega
              rw [hyq.out] at hy'
              cases hy'
              show y.r.s ≤ x.r.s
              omega))
            clear hin hal hSs hlen hc1 hxg hyg hzg hstep
            go_wp2_with fail
            refine wp_region_held_drew (S := fun w' => Below wr.heap.size wr w') (by kernel_rfl) (Below.refl _ _).drew (fun hHeld => ?_)
            try dsimp only at hHeld
            have bd : Below wr.heap.size wr wr.drew := (Below.refl wr.heap.size wr).drew
            generalize wr.drew = wd at *
            try simp only [Act.put, List.setIfInBounds_toArray, List.set_cons_zero, List.set_cons_succ]
            refine wpAnyH_take (i := 0) (v := ?_) (by simp only [List.getElem?_toArray, List.getElem?_cons_zero]; rfl) (by kernel_rfl) (by kernel_rfl) (by kernel_rfl) (by intro _ _ _ h; exact h) (Or.inl ⟨by rfl, ?_⟩) hHeld ?_
            rotate_left 1
            · intro wq hSw
              try dsimp only at hSw
              go_simp
              try (with_reducible rfl)
            try simp only [Act.put, List.setIfInBounds_toArray, List.set_cons_zero, List.set_cons_succ]
            refine wpAnyH_take (i := 1) (v := ?_) (by simp only [List.getElem?_toArray, List.getElem?_cons_succ, List.getElem?_cons_zero]; rfl) (by kernel_rfl) (by kernel_rfl) (by kernel_rfl) (by intro _ _ _ h; exact h) (Or.inl ⟨by rfl, ?_⟩) hHeld ?_
            rotate_left 1
            · intro wq hSw
              try dsimp only at hSw
              go_simp
              try (with_reducible rfl)
            try simp only [Act.put, List.setIfInBounds_toArray, List.set_cons_zero, List.set_cons_succ]
            refine wpAnyH_take (i := 2) (v := .bool true) (by simp only [List.getElem?_toArray, List.getElem?_cons_succ, List.getElem?_cons_zero]; rfl) (by kernel_rfl) (by kernel_rfl) (by kernel_rfl) (by intro _ _ _ h; exact h) (Or.inl ⟨by rfl, ?_⟩) hHeld ?_
            · intro wq hSw
              try dsimp only at hSw
              go_simp
              all_goals (first | (with_reducible rfl) | omega | (simp; done) | (simp; omega))
            try simp only [Act.put, List.setIfInBounds_toArray, List.set_cons_zero, List.set_cons_succ]
            refine wpAnyH_take (i := 3) (v := ?_) (by simp only [List.getElem?_toArray, List.getElem?_cons_succ, List.getElem?_cons_zero]; rfl) (by kernel_rfl) (by kernel_rfl) (by kernel_rfl) (by intro _ _ _ h; exact h) (Or.inl ⟨by rfl, ?_⟩) hHeld ?_
            rotate_left 1
            · intro wq hSw
              try dsimp only at hSw
              go_simp
              try (with_reducible rfl)
            try simp only [Act.put, List.setIfInBounds_toArray, List.set_cons_zero, List.set_cons_succ]
            refine wpAnyH_take (i := 4) (v := ?_) (by simp only [List.getElem?_toArray, List.getElem?_cons_succ, List.getElem?_cons_zero]; rfl) (by kernel_rfl) (by kernel_rfl) (by kernel_rfl) (by intro _ _ _ h; exact h) (Or.inl ⟨by rfl, ?_⟩) hHeld ?_
            rotate_left 1
            · intro wq hSw
              try dsimp only at hSw
              go_simp
              try (with_reducible rfl)
            try simp only [Act.put, List.setIfInBounds_toArray, List.set_cons_zero, List.set_cons_succ]
            refine wpAnyH_take (i := 5) (v := ?_) (by simp only [List.getElem?_toArray, List.getElem?_cons_succ, List.getElem?_cons_zero]; rfl) (by kernel_rfl) (by kernel_rfl) (by kernel_rfl) (by intro _ _ _ h; exact h) (Or.inl ⟨by rfl, ?_⟩) hHeld ?_
            rotate_left 1
            · intro wq hSw
              try dsimp only at hSw
              go_simp
              try (with_reducible rfl)
            try simp only [Act.put, List.setIfInBounds_toArray, List.set_cons_zero, List.set_cons_succ]
            refine wpAnyH_take (i := 6) (v := ?_) (by simp only [List.getElem?_toArray, List.getElem?_cons_succ, List.getElem?_cons_zero]; rfl) (by kernel_rfl) (by kernel_rfl) (by kernel_rfl) (by intro _ _ _ h; exact h) (Or.inl ⟨by rfl, ?_⟩) hHeld ?_
            rotate_left 1
            · intro wq hSw
              try dsimp only at hSw
              go_simp
              try (with_reducible rfl)
            try simp only [Act.put, List.setIfInBounds_toArray, List.set_cons_zero, List.set_cons_succ]
            refine wpAnyH_take (i := 7) (v := .pointer (some ⟨g, (j + 1) * 5, none⟩)) (by simp only [List.getElem?_toArray, List.getElem?_cons_succ, List.getElem?_cons_zero]; rfl) (by kernel_rfl) (by kernel_rfl) (by kernel_rfl) (by intro _ _ _ h; exact h) (Or.inl ⟨by rfl, ?_⟩) hHeld ?_
            · intro wq hSw
              try dsimp only at hSw
              go_simp
              all_goals (first | (with_reducible rfl) | (intro hh; exfalso; omega))
            try simp only [Act.put, List.setIfInBounds_toArray, List.set_cons_zero, List.set_cons_succ]
            refine wpAnyH_take (i := 8) (v := ?_) (by simp only [List.getElem?_toArray, List.getElem?_cons_succ, List.getElem?_cons_zero]; rfl) (by kernel_rfl) (by kernel_rfl) (by kernel_rfl) (by intro _ _ _ h; exact h) (Or.inl ⟨by rfl, ?_⟩) hHeld ?_
            rotate_left 1
            · intro wq hSw
              try dsimp only at hSw
              have x0' := (hSw.cell hlt).trans x0
              have x1' := (hSw.cell hlt).trans x1
              have x2' := (hSw.cell hlt).trans x2
              have x3' := (hSw.cell hlt).trans x3
              have x4' := (hSw.cell hlt).trans x4
              go_simp
              try (with_reducible rfl)
            try simp only [Act.put, List.setIfInBounds_toArray, List.set_cons_zero, List.set_cons_succ]
            refine wpAnyH_take (i := 9) (v := ?_) (by simp only [List.getElem?_toArray, List.getElem?_cons_succ, List.getElem?_cons_zero]; rfl) (by kernel_rfl) (by kernel_rfl) (by kernel_rfl) (by intro _ _ _ h; exact h) (Or.inl ⟨by rfl, ?_⟩) hHeld ?_
            rotate_left 1
            · intro wq hSw
              try dsimp only at hSw
              go_simp
              try (with_reducible rfl)
            try simp only [Act.put, List.setIfInBounds_toArray, List.set_cons_zero, List.set_cons_succ]
            refine wpAnyH_take (i := 10) (v := ?_) (by simp only [List.getElem?_toArray, List.getElem?_cons_succ, List.getElem?_cons_zero]; rfl) (by kernel_rfl) (by kernel_rfl) (by kernel_rfl) (by intro _ _ _ h; exact h) (Or.inl ⟨by rfl, ?_⟩) hHeld ?_
            rotate_left 1
            · intro wq hSw
              try dsimp only at hSw
              go_simp
              try (with_reducible rfl)
            try simp only [Act.put, List.setIfInBounds_toArray, List.set_cons_zero, List.set_cons_succ]
            refine wpAnyH_take (i := 11) (v := .int .i64 (j : Int)) (by simp only [List.getElem?_toArray, List.getElem?_cons_succ, List.getElem?_cons_zero]; rfl) (by kernel_rfl) (by kernel_rfl) (by kernel_rfl) (by intro _ _ _ h; exact h) (Or.inl ⟨by rfl, ?_⟩) hHeld ?_
            · intro wq hSw
              try dsimp only at hSw
              go_simp
              all_goals (first | (with_reducible rfl) | (rw [wrapi64 (by omega) (by omega)]) | exact wrapi64 (by omega) (by omega))
            try simp only [Act.put, List.setIfInBounds_toArray, List.set_cons_zero, List.set_cons_succ]
            refine wpAnyH_take (i := 12) (v := .pointer (some ⟨g, j * 5, none⟩)) (by simp only [List.getElem?_toArray, List.getElem?_cons_succ, List.getElem?_cons_zero]; rfl) (by kernel_rfl) (by kernel_rfl) (by kernel_rfl) (by intro _ _ _ h; exact h) (Or.inl ⟨by rfl, ?_⟩) hHeld ?_
            · intro wq hSw
              try dsimp only at hSw
              go_simp
              all_goals (first | (with_reducible rfl) | (intro hh; exfalso; omega))
            try simp only [Act.put, List.setIfInBounds_toArray, List.set_cons_zero, List.set_cons_succ]
            refine wpAnyH_take (i := 13) (v := ?_) (by simp only [List.getElem?_toArray, List.getElem?_cons_succ, List.getElem?_cons_zero]; rfl) (by kernel_rfl) (by kernel_rfl) (by kernel_rfl) (by intro _ _ _ h; exact h) (Or.inl ⟨by rfl, ?_⟩) hHeld ?_
            rotate_left 1
            · intro wq hSw
              try dsimp only at hSw
              have y0' := (hSw.cell hlt).trans y0
              have y1' := (hSw.cell hlt).trans y1
              have y2' := (hSw.cell hlt).trans y2
              have y3' := (hSw.cell hlt).trans y3
              have y4' := (hSw.cell hlt).trans y4
              go_simp
              try (with_reducible rfl)
            try simp only [Act.put, List.setIfInBounds_toArray, List.set_cons_zero, List.set_cons_succ]
            refine wpAnyH_ready (rs := [14]) (by kernel_rfl) (by simp) ?_
            refine AllReadyH.cons (by simp only [List.getElem?_toArray, List.getElem?_cons_succ, List.getElem?_cons_zero]; rfl) (fun K hK => ?_) AllReadyH.nil
            have hC := gAll1_any x y Ax Ay cx cy wd
            go_simp
            refine hC.mono ?_
            clear hC
            rintro e w2 ⟨rfl, b2⟩
            rw [hcmp]
            go_wp2_with fail
            refine hK.out _ _ (bd.trans (b2.mono bd.size)) (fun hHeld => ?_)
            clear hK K
            try dsimp only at hHeld
            try simp only [Act.put, List.setIfInBounds_toArray, List.set_cons_zero, List.set_cons_succ]
            refine wpAnyH_take (i := 15) (v := .bool false) (by simp only [List.getElem?_toArray, List.getElem?_cons_succ, List.getElem?_cons_zero]; rfl) (by kernel_rfl) (by kernel_rfl) (by kernel_rfl) (by intro _ _ _ h; exact h) (Or.inl ⟨by rfl, ?_⟩) hHeld ?_
            · intro wq hSw
              try dsimp only at hSw
              go_simp
              all_goals (first | (with_reducible rfl) | omega | (simp; done) | (simp; omega))
            try simp only [Act.put, List.setIfInBounds_toArray, List.set_cons_zero, List.set_cons_succ]
            refine wpAnyH_take (i := 16) (v := ?_) (by simp only [List.getElem?_toArray, List.getElem?_cons_succ, List.getElem?_cons_zero]; rfl) (by kernel_rfl) (by kernel_rfl) (by kernel_rfl) (by intro _ _ _ h; exact h) (Or.inl ⟨by rfl, ?_⟩) hHeld ?_
            rotate_left 1
            · intro wq hSw
              try dsimp only at hSw
              go_simp
              try (with_reducible rfl)
            try simp only [Act.put, List.setIfInBounds_toArray, List.set_cons_zero, List.set_cons_succ]
            refine wpAnyH_done (by kernel_rfl) ?_ _
            have b3 := bd.trans (b2.mono bd.size)
            replace hR := hR.under b3
            replace hu := hu.call b3
            clear x0 x1 x2 x3 x4 y0 y1 y2 y3 y4 hHeld b3 b2 bd
            go_wp2
            go_roundg gq
            case measure => omega
            case rel => exact ⟨i + 1, m + 1, _, by omega, by omega, by have := hi.out; show i + 1 = a + (m + 1); omega, fun _ => by have := hi.out; omega, by first | rfl | (simp; done) | (simp; omega), hLn, hR, hu⟩
    · have hLy : L = ys := by
        rw [hL.out, hys.out]
        by_cases hab2 : a = b
        · subst hab2
          obtain rfl : m = 1 := by omega
          rw [← hL1.out]
          simp [sortK]
        · have e4 : (xs.take b).drop a = (xs.drop a).take (b - a) := by rw [List.drop_take]
          have := hi.out
          have := hmb.out
          rw [e4, show m = b - a by omega, show a + (b - a) = b by omega]
      subst hLy
      go_wp2
      go_end0
      exact ⟨rfl, hR, hu⟩
end Go.Proofs.YtnejiclghnigiaaDoor
namespace Go.Proofs.YtnejiclghnigiaaDoor
open Go.RowKit Go.Wag
set_option linter.unusedVariables false
set_option maxRecDepth 20000

set_option maxHeartbeats 1000000 in
theorem gIns_none (A : Option Addr) (n c : Nat) (w : World) : Calls Tryd.prog 69 #[.slice A n c, .int .i64 0, .int .i64 0, .func (.func 36) #[] #[]] w fun e w' => e = .returned (.tuple #[]) ∧ w = w' := by
  go_enter Tryd.func69, Tryd.ntmps69
  go_wp2_with fail
  go_loopg [8] 1 (fun gk iv wr => iv = .int .i64 1 ∧ w = wr)
  case atStart => exact ⟨by first | rfl | (simp; done), rfl⟩
  case round =>
    obtain ⟨rfl, rfl⟩ := hrel
    go_wp2
    go_end0
    exact ⟨rfl, rfl⟩

set_option maxHeartbeats 1000000 in
theorem gStable_none (A : Option Addr) (c : Nat) (w : World) : Calls Tryd.prog 56 #[.slice A 0 c, .int .i64 0, .func (.func 36) #[] #[]] w fun e w' => e = .returned (.tuple #[]) ∧ w = w' := by
  go_enter Tryd.func56, Tryd.ntmps56
  go_wp2_with fail
  go_loopg [7, 8] 1 (fun gk av bv wr => av = .int .i64 0 ∧ bv = .int .i64 20 ∧ w = wr)
  case atStart => exact ⟨rfl, rfl, rfl⟩
  case round =>
    obtain ⟨rfl, rfl, rfl⟩ := hrel
    go_wp2_with fail
    refine (gIns_none A 0 c w).mono ?_
    rintro e w1 ⟨rfl, rfl⟩
    go_wp2_with fail
    go_loopg [6] 1 (fun gk av wr => av = .int .i64 20 ∧ w = wr)
    case atStart => exact ⟨rfl, rfl⟩
    case round =>
      obtain ⟨rfl, rfl⟩ := hrel
      go_wp2
      go_end0
      exact ⟨rfl, rfl⟩

set_option maxHeartbeats 2000000 in
theorem gStable_any {F : Nat → Prop} (g : Nat) (n c : Nat) (xs : List Fp) (w : World) (h : Ro fndE F 28 w g xs) (hn : xs.length = n) (hc : n ≤ c) (hcb : c ≤ 9223372036854775807) (hn2 : n ≤ 20) :
    Calls Tryd.prog 56 #[.slice (some ⟨g, 0, none⟩) n c, .int .i64 (n : Int), .func (.func 36) #[] #[]] w (SortPost F w g (sortK seqK xs)) := by
  have e0 : Hid (xs.take 0 ++ (sortK seqK ((xs.take n).drop 0) ++ xs.drop n) = sortK seqK xs) := by
    show _ = _
    rw [List.take_zero, List.drop_zero, List.take_of_length_le (by omega), List.drop_of_length_le (by omega), List.nil_append, List.append_nil]
  obtain ⟨ys, hys⟩ : ∃ y, Hid (y = sortK seqK xs) := ⟨_, rfl⟩
  rw [← hys.out]
  rw [← hys.out] at e0
  have hyl : ys.length = n := by rw [hys.out, sortK_length, hn]
  clear hys
  go_enter Tryd.func56, Tryd.ntmps56
  go_wp2_with fail
  by_cases hlt : n < 20
  · go_loopg [7, 8] 1 (fun gk av bv wr => av = .int .i64 0 ∧ bv = .int .i64 20 ∧ w = wr)
    case atStart => exact ⟨rfl, rfl, rfl⟩
    case round =>
      obtain ⟨rfl, rfl, rfl⟩ := hrel
      have hC := gIns_any g n c xs 0 n w h hn hc hcb (by omega) (Nat.le_refl _) (by omega)
      rw [e0.out] at hC
      go_wp2_with fail
      refine hC.mono ?_
      clear hC
      rintro e w1 ⟨rfl, R1, u1⟩
      go_wp2_with fail
      go_loopg [6] 1 (fun gk av wr => av = .int .i64 20 ∧ w1 = wr)
      case atStart => exact ⟨rfl, rfl⟩
      case round =>
        obtain ⟨rfl, rfl⟩ := hrel
        go_wp2
        go_end0
        exact ⟨rfl, R1, u1⟩
  · obtain rfl : 20 = n := by omega
    have e1 : Hid (ys.take 20 ++ (sortK seqK ((ys.take 20).drop 20) ++ ys.drop 20) = ys) := by
      show _ = _
      rw [List.drop_of_length_le (by rw [List.length_take]; omega), List.drop_of_length_le (by omega), List.take_of_length_le (by omega)]
      simp [sortK]
    go_loopg [7, 8] 2 (fun gk av bv wr => (gk = 2 ∧ av = .int .i64 0 ∧ bv = .int .i64 20 ∧ w = wr) ∨ (gk = 1 ∧ av = .int .i64 20 ∧ bv = .int .i64 40 ∧ Ro fndE F 28 wr g ys ∧ Bts g w wr))
    case atStart => exact .inl ⟨rfl, rfl, rfl, rfl⟩
    case round =>
      rcases hrel with ⟨rfl, rfl, rfl, rfl⟩ | ⟨rfl, rfl, rfl, R1, u1⟩
      · have hC := gIns_any g 20 c xs 0 20 w h hn hc hcb (by omega) (Nat.le_refl _) (by omega)
        rw [e0.out] at hC
        go_wp2_with fail
        refine hC.mono ?_
        clear hC
        rintro e w1 ⟨rfl, R1, u1⟩
        go_wp2
        go_roundg 1
        case measure => omega
        case rel => exact .inr ⟨rfl, rfl, by first | rfl | (simp; done), R1, u1⟩
      · have hC := gIns_any g 20 c ys 20 20 wr R1 hyl hc hcb (Nat.le_refl _) (Nat.le_refl _) (by omega)
        rw [e1.out] at hC
        go_wp2_with fail
        refine hC.mono ?_
        clear hC
        rintro e w1 ⟨rfl, R2, u2⟩
        replace u1 := u1.trans u2
        go_wp2_with fail
        go_loopg [6] 1 (fun gk av wr => av = .int .i64 20 ∧ w1 = wr)
        case atStart => exact ⟨rfl, rfl⟩
        case round =>
          obtain ⟨rfl, rfl⟩ := hrel
          go_wp2
          go_end0
          exact ⟨rfl, R2, u1⟩

set_option maxHeartbeats 1000000 in
theorem gSort_any {B : Nat} (A : Option Addr) (n c : Nat) (xs : List Fp) (w : World) (h : Rq fndE (fun b => B ≤ b) B 28 w A n c xs) (hn2 : n ≤ 20) (hB : B ≤ w.heap.size) :
    Calls Tryd.prog 35 #[.slice A n c, .func (.func 36) #[] #[]] w fun e w' => e = .returned (.tuple #[]) ∧ Rs fndE (fun b => B ≤ b) w' A n c (sortK seqK xs) ∧ Below B w w' := by
  rcases Nat.eq_zero_or_pos n with hn | hn
  · subst hn
    have hx : xs = [] := List.eq_nil_of_length_eq_zero h.len
    have hR := h.toRs (fun b _ hb => hb)
    rw [hx] at hR
    rw [hx]
    go_enter Tryd.func35, Tryd.ntmps35
    go_wp2_with fail
    refine (gStable_none A c w).mono ?_
    rintro e w1 ⟨rfl, rfl⟩
    go_wp2
    go_end0
    exact ⟨rfl, hR, Below.refl _ _⟩
  · obtain ⟨g, rfl, hBg, hc, hcb, hR⟩ := h.toRo hn
    have hl := h.len
    go_enter Tryd.func35, Tryd.ntmps35
    go_wp2_with fail
    refine (gStable_any g n c xs w hR hl hc hcb hn2).mono ?_
    rintro e w1 ⟨rfl, R1, u1⟩
    go_wp2
    go_end0
    exact ⟨rfl, R1.toRs (by rw [sortK_length, hl]) hc hcb hBg, u1.below hBg hB⟩

/-- The records of zone i, as they are found. -/
def zoneF (i : Nat) (z : Zp) : List Fp := (scF z.l 0).map fun x => ⟨x.1, (i : Int), (x.2 : Int)⟩
def rawG : Nat → List Zp → List Fp
  | _, [] => []
  | i, z :: zs => zoneF i z ++ rawG (i + 1) zs
def allF (zs : List Zp) : List Fp := sortK seqK (rawG 0 zs)
/-- What All answers. -/
def AllPost (w : World) (xs : List Fp) (er : Int) (e : Ending) (w' : World) : Prop :=
  ∃ A k c, k = xs.length ∧ e = .returned (.tuple #[.slice A k c, .int .i64 er]) ∧ Rs fndE (fun b => w.heap.size ≤ b) w' A k c xs ∧ Below w.heap.size w w'
theorem iFnd : ∃ i, Tryd.prog.info? 28 = some i ∧ i.zero = some (.agg #[.int .i64 0, .int .i64 0, .slice none 0 0, .int .i64 0, .int .i64 0]) ∧ i.size = 5 ∧ i.bytes = 56 := by
  refine ⟨_, rfl, ?_, ?_, ?_⟩
  · kernel_rfl
  · kernel_rfl
  · kernel_rfl
theorem one_fnd (a b z p : Int) (A : Option Addr) (n c : Nat) : ∀ u ∈ [Value.int .i64 a, .int .i64 b, .slice A n c, .int .i64 z, .int .i64 p], u.oneCell' = true := by
  intro u hu
  simp only [List.mem_cons, List.not_mem_nil, or_false] at hu
  rcases hu with rfl | rfl | rfl | rfl | rfl <;> rfl
abbrev natE : Elt Nat := cellE (fun p : Nat => vint (p : Int))
theorem nat_rs {w0 w : World} {t : TypeId} {A : Option Addr} {n c : Nat} {xs : List (Rp × Nat)} (hl : n = xs.length) (h : Nw t w0 w A n c (xs.map fun x => vint x.2)) : Rs natE (fun b => w0.heap.size ≤ b) w A n c (xs.map Prod.snd) := by
  have hq : Rq natE (fun b => w0.heap.size ≤ b) w0.heap.size t w A n c (xs.map Prod.snd) := ⟨by rw [List.length_map, hl], _, h, fun i x hi => by
    refine ⟨[vint (x : Int)], rfl, fun j v hj => ?_⟩
    rw [List.getElem?_map, Option.map_eq_some_iff] at hi
    obtain ⟨y, hy, rfl⟩ := hi
    have hj0 : j = 0 := by
      have := (List.getElem?_eq_some_iff.1 hj).1
      simp at this
      omega
    subst hj0
    have e : i * natE.k + 0 = i := by show i * 1 + 0 = i; omega
    rw [e, List.getElem?_map, hy]
    exact hj⟩
  exact hq.toRs (fun b _ hb => hb)

set_option maxHeartbeats 1000000 in
theorem gAll_no {F : Nat → Prop} (size lf dn : Int) (dw : Bool) (A : Option Addr) (n c : Nat) (zs : List Zp) (w : World) (h : Zs F w A n c zs) (hd : devF size zs = false) :
    Calls Tryd.prog 17 #[.agg #[.int .i64 size, .slice A n c, .int .i64 lf, .bool dw, .int .i64 dn]] w (AllPost w [] 1) := by
  have a0 := (Below.refl w.heap.size w).alloc (Nat.le_refl _) (.cells #[.int .i64 size, .slice A n c, .int .i64 lf, .bool dw, .int .i64 dn] 36)
  have B0 := Blk.new w #[.int .i64 size, .slice A n c, .int .i64 lf, .bool dw, .int .i64 dn] 36
  obtain ⟨p0, p1, p2, p3, p4, _⟩ := B0.five
  replace h := h.below a0
  go_enter Tryd.func17, Tryd.ntmps17
  go_wp2_with fail
  generalize w.alloc (.cells #[.int .i64 size, .slice A n c, .int .i64 lf, .bool dw, .int .i64 dn] 36) = w0 at *
  refine (dCheck_at size lf dn dw A n c zs false w0 h hd).mono ?_
  rintro e w1 ⟨rfl, b1⟩
  clear p0 p1 p2 p3 p4
  go_wp2
  go_ret2
  exact ⟨_, _, _, rfl, rfl, Rs.nil _ _ _, a0.trans (b1.mono a0.size)⟩

set_option maxHeartbeats 4000000 in
theorem gAll_any {F : Nat → Prop} (size lf dn : Int) (dw : Bool) (A : Option Addr) (n c : Nat) (zs : List Zp) (xs : List Fp) (w : World) (hT : Tab w) (h : Zs F w A n c zs) (hd : devF size zs = true) (hx : allF zs = xs) (hl : (rawG 0 zs).length ≤ 20) :
    Calls Tryd.prog 17 #[.agg #[.int .i64 size, .slice A n c, .int .i64 lf, .bool dw, .int .i64 dn]] w (AllPost w xs 0) := by
  obtain ⟨iC, hiC, hzC, hsC, hbC⟩ := iFnd
  have hsm := sm_dev hd
  have hlen := h.len
  have hcap := h.cap
  have hbig := h.big
  obtain ⟨raw, hraw⟩ : ∃ r, Hid (r = rawG 0 zs) := ⟨_, rfl⟩
  have hxs : Hid (sortK seqK raw = xs) := by
    show _ = _
    rw [hraw.out]
    exact hx
  have hrl : Hid (raw.length ≤ 20) := by
    show _ ≤ _
    rw [hraw.out]
    exact hl
  have hr0 : Hid (raw = [] ++ rawG 0 (zs.drop 0)) := by
    show raw = _
    rw [hraw.out]
    rfl
  clear hraw hx hl
  have a0 := (Below.refl w.heap.size w).alloc (Nat.le_refl _) (.cells #[.int .i64 size, .slice A n c, .int .i64 lf, .bool dw, .int .i64 dn] 36)
  have B0 := Blk.new w #[.int .i64 size, .slice A n c, .int .i64 lf, .bool dw, .int .i64 dn] 36
  obtain ⟨p0, p1, p2, p3, p4, _⟩ := B0.five
  replace h := h.below a0
  have hT0 := hT.below a0
  go_enter Tryd.func17, Tryd.ntmps17
  go_wp2_with fail
  generalize w.alloc (.cells #[.int .i64 size, .slice A n c, .int .i64 lf, .bool dw, .int .i64 dn] 36) = w0 at *
  refine (dCheck_at size lf dn dw A n c zs true w0 h hd).mono ?_
  rintro e w1 ⟨rfl, b1⟩
  clear p0 p1 p2 p3 p4
  have hT1 := hT0.below b1
  replace h := h.below b1
  replace B0 := B0.under b1
  have bb := a0.trans (b1.mono a0.size)
  have hw1 : w.heap.size + 1 ≤ w1.heap.size := B0.lt
  obtain ⟨p0, p1, p2, p3, p4, _⟩ := B0.five
  clear hT0 a0 b1 hT
  go_wp2_with fail
  clear p0 p1 p2 p3 p4 B0
  go_loopg [4, 17] n (fun gk av iv wr => ∃ (k : Nat) (Aa : Option Addr) (na ca : Nat) (ds : List Fp), k + gk = n ∧ av = .slice Aa na ca ∧ iv = .int .i64 (k : Int) ∧ Hid (raw = ds ++ rawG k (zs.drop k)) ∧ Rq fndE (fun b => w1.heap.size ≤ b) w1.heap.size 28 wr Aa na ca ds ∧ Below w1.heap.size w1 wr)
  case atStart => exact ⟨0, none, 0, 0, [], by omega, rfl, rfl, hr0, Rq.nil _ _ _ _ _, Below.refl _ _⟩
  case round =>
    obtain ⟨k, Aa, na, ca, ds, hkg, rfl, rfl, hr, hR, bb2⟩ := hrel
    by_cases hlt : (k : Int) < (n : Int)
    · obtain ⟨g, rfl⟩ : ∃ g, gk = g + 1 := ⟨gk - 1, by omega⟩
      obtain ⟨gb, o, z, Ai, ci, rfl, hF, hg, hz, c0', c1', c2', c3', hS, hA⟩ := h.at_ (show k < n by omega)
      have c0 := (bb2.cell hg).trans c0'
      have c1 := (bb2.cell hg).trans c1'
      have c2 := (bb2.cell hg).trans c2'
      have c3 := (bb2.cell hg).trans c3'
      have hzb := hsm.at_ hz
      obtain ⟨sc, hsc⟩ : ∃ s, Hid (scF z.l 0 = s) := ⟨_, rfl⟩
      have hr2 : Hid (raw = ds ++ ((zoneF k z).drop 0 ++ rawG (k + 1) (zs.drop (k + 1)))) := by
        show raw = _
        obtain ⟨hk2, hz2⟩ := List.getElem?_eq_some_iff.1 hz
        rw [hr.out, List.drop_eq_getElem_cons hk2, hz2]
        rfl
      clear c0' c1' c2' c3' hz hA hF hr
      have al := (Below.refl wr.heap.size wr).alloc (Nat.le_refl _) (.cells #[.int .i64 z.st, .int .i64 z.rs, .slice Ai z.l.length ci, .int .i64 z.la] 56)
      have Bz := Blk.new wr #[.int .i64 z.st, .int .i64 z.rs, .slice Ai z.l.length ci, .int .i64 z.la] 56
      obtain ⟨v0, v1, v2, v3, _⟩ := Bz.four
      have bb3 := bb2.alloc bb2.size (.cells #[.int .i64 z.st, .int .i64 z.rs, .slice Ai z.l.length ci, .int .i64 z.la] 56)
      have hS2 := hS.below bb3
      have hT2 := hT1.below bb3
      have hR2 := hR.under al
      have hal := al.size
      go_wp2_with fail
      generalize wr.alloc (.cells #[.int .i64 z.st, .int .i64 z.rs, .slice Ai z.l.length ci, .int .i64 z.la] 56) = w2 at *
      have hC := rScan_any Ai z.l.length ci z.l w2 hT2 hS2 (by omega)
      rw [hsc.out] at hC
      refine hC.mono ?_
      clear hC c0 c1 c2 c3 v0 v1 v2 v3 Bz
      rintro e w3 ⟨A2, k2, c2, A3, c3, hk2, rfl, R2, N2, b3⟩
      have P2 := nat_rs hk2 N2
      have hlo := hR.lt
      have hbs := bb2.size
      replace R2 := R2.imp (F' := (fun b => w1.heap.size ≤ b ∧ (Value.slice Aa na ca).ownBlock ≠ some b)) (fun b _ hb => ⟨by omega, fun e => by have := (hlo b e).2; omega⟩)
      replace P2 := P2.imp (F' := (fun b => w1.heap.size ≤ b ∧ (Value.slice Aa na ca).ownBlock ≠ some b)) (fun b _ hb => ⟨by omega, fun e => by have := (hlo b e).2; omega⟩)
      replace hk2 := Lib.hid hk2
      have hR3 := hR2.under b3
      have bb4 := bb3.trans (b3.mono bb3.size)
      have hcp2 := R2.cap
      have hcb2 := R2.big
      have hcp3 := P2.cap
      have hcb3 := P2.big
      clear N2 hlo hbs hR hR2 bb2 bb3 b3 al hal hS hS2 hT2
      go_wp2_with fail
      go_loopg [4, 30] k2 (fun g2 av jv wr => ∃ (j : Nat) (Aa : Option Addr) (na ca : Nat) (ds : List Fp), j + g2 = k2 ∧ av = .slice Aa na ca ∧ jv = .int .i64 (j : Int) ∧ Hid (raw = ds ++ ((zoneF k z).drop j ++ rawG (k + 1) (zs.drop (k + 1)))) ∧ Rq fndE (fun b => w1.heap.size ≤ b) w1.heap.size 28 wr Aa na ca ds ∧
        Rs recE (fun b => w1.heap.size ≤ b ∧ (Value.slice Aa na ca).ownBlock ≠ some b) wr A2 k2 c2 (sc.map Prod.fst) ∧ Rs natE (fun b => w1.heap.size ≤ b ∧ (Value.slice Aa na ca).ownBlock ≠ some b) wr A3 k2 c3 (sc.map Prod.snd) ∧ Below w1.heap.size w1 wr)
      case atStart => exact ⟨0, Aa, na, ca, ds, by omega, rfl, rfl, hr2, hR3, R2, P2, bb4⟩
      case round =>
        clear hr2 hR3 R2 P2 bb4
        obtain ⟨j, Aa, na, ca, ds, hjg, rfl, rfl, hr, hR, R2, P2, bb⟩ := hrel
        by_cases hjlt : (j : Int) < (k2 : Int)
        · obtain ⟨g2, rfl⟩ : ∃ g, gk = g + 1 := ⟨gk - 1, by omega⟩
          obtain ⟨gr_, or_, r, Ar, cr, rfl, hFr, hgr, hrj, c0, c1, c2', hSr, hAr⟩ := Rs.rec_at R2 (show j < k2 by omega)
          obtain ⟨gp, op, p, vs, rfl, hFp, hgp, hpj, hvs, hcp⟩ := P2.at_ (show j < k2 by omega)
          have cp : wr.cell? ⟨gp, op + j, none⟩ = some (.int .i64 (p : Int)) := by
            have hv0 : vs = [vint (p : Int)] := hvs
            subst hv0
            have := hcp 0 _ rfl
            simpa [vint, cellE] using this
          have hnl := hR.len
          have hr3 : Hid (raw = (ds ++ [⟨r, (k : Int), (p : Int)⟩]) ++ ((zoneF k z).drop (j + 1) ++ rawG (k + 1) (zs.drop (k + 1)))) := by
            show raw = _
            rw [List.getElem?_map, Option.map_eq_some_iff] at hrj hpj
            obtain ⟨y, hy, rfl⟩ := hrj
            obtain ⟨y', hy', rfl⟩ := hpj
            cases hy.symm.trans hy'
            have hzj : (zoneF k z)[j]? = some ⟨y.1, (k : Int), (y.2 : Int)⟩ := by rw [zoneF, hsc.out, List.getElem?_map, hy]; rfl
            obtain ⟨hj2, hz2⟩ := List.getElem?_eq_some_iff.1 hzj
            rw [hr.out, List.drop_eq_getElem_cons hj2, hz2]
            simp
          have hna : na ≤ 19 := by
            have h1 := hrl.out
            rw [hr3.out] at h1
            simp only [List.length_append, List.length_cons, List.length_nil] at h1
            omega
          clear hr hrj hpj hvs hcp hFr
          have al := (Below.refl wr.heap.size wr).alloc (Nat.le_refl _) (.cells #[.int .i64 r.k, .int .i64 r.s, .slice Ar r.l.length cr] 26)
          have Bv := Blk.new wr #[.int .i64 r.k, .int .i64 r.s, .slice Ar r.l.length cr] 26
          have hvo : (Value.slice Aa na ca).ownBlock ≠ some wr.heap.size := fun e => by have := (hR.lt _ e).2; omega
          have hgd : gp < (wr.alloc (.cells #[.int .i64 r.k, .int .i64 r.s, .slice Ar r.l.length cr] 26)).heap.size := Nat.lt_of_lt_of_le hgp al.size
          replace cp := (al.cell (p := ⟨gp, op + j, none⟩) hgp).trans cp
          replace hSr := hSr.below al
          replace bb := bb.alloc bb.size (.cells #[.int .i64 r.k, .int .i64 r.s, .slice Ar r.l.length cr] 26)
          replace hR := hR.under al
          replace R2 := R2.below al
          replace P2 := P2.below al
          obtain ⟨v0, v1, v2, _⟩ := Bv.three
          go_wp2_with fail
          clear v0 v1 v2 c0 c1 c2' al
          generalize wr.alloc (.cells #[.int .i64 r.k, .int .i64 r.s, .slice Ar r.l.length cr] 26) = w4 at *
          refine wp_region_held_drew (S := fun w' => Blk w' wr.heap.size #[.int .i64 r.k, .int .i64 r.s, .slice Ar r.l.length cr] 26 ∧ w'.cell? ⟨gp, op + j, none⟩ = some (.int .i64 (p : Int))) (by kernel_rfl) ⟨Bv, cp⟩ (fun hHeld => ?_)
          try dsimp only at hHeld
          replace hR := hR.drew
          replace R2 := R2.drew
          replace P2 := P2.drew
          have bd : Below w4.heap.size w4 w4.drew := (Below.refl _ _).drew
          replace bb := bb.drew
          replace Bv := Bv.drew
          replace cp := (bd.cell (p := ⟨gp, op + j, none⟩) hgd).trans cp
          replace hSr := hSr.below bd
          replace hgd : gp < w4.drew.heap.size := hgd
          clear bd
          generalize w4.drew = wd at *
          have al5 := (Below.refl wd.heap.size wd).alloc (Nat.le_refl _) (.cells #[.int .i64 r.k, .int .i64 r.s, .slice Ar r.l.length cr, .int .i64 (k : Int), .int .i64 (p : Int)] 28)
          have Bs := Blk.new wd #[.int .i64 r.k, .int .i64 r.s, .slice Ar r.l.length cr, .int .i64 (k : Int), .int .i64 (p : Int)] 28
          have hbd := bb.size
          have hrd : fndE.rd (fun b => w1.heap.size ≤ b ∧ (Value.slice Aa na ca).ownBlock ≠ some b) (wd.alloc (.cells #[.int .i64 r.k, .int .i64 r.s, .slice Ar r.l.length cr, .int .i64 (k : Int), .int .i64 (p : Int)] 28)) [.int .i64 r.k, .int .i64 r.s, .slice Ar r.l.length cr, .int .i64 (k : Int), .int .i64 (p : Int)] ⟨r, (k : Int), (p : Int)⟩ := ⟨Ar, cr, rfl, hSr.below al5, hAr⟩
          obtain ⟨A5, c5, w5, hrun, R5, gr, hl5⟩ := (hR.under al5).app (P := Tryd.prog) (T := 22) (ty := 22) Tryd.underlying22 hiC hzC hsC hbC rfl (Nat.le_trans hbd al5.size) (by omega) (by omega) hrd (one_fnd _ _ _ _ _ _ _) Bs
          have hlt5 := (hR.under al5).lt
          have hnew : ∀ b, b < (wd.alloc (.cells #[.int .i64 r.k, .int .i64 r.s, .slice Ar r.l.length cr, .int .i64 (k : Int), .int .i64 (p : Int)] 28)).heap.size → (Value.slice Aa na ca).ownBlock ≠ some b → (Value.slice A5 (na + 1) c5).ownBlock ≠ some b := fun b hb hf e => by
            rcases hl5 with e5 | e5
            · exact hf (e5 ▸ e)
            · rw [e5] at e
              have := Option.some.inj e
              omega
          have R2n := (((R2.below al5).imp (F' := fun b => (w1.heap.size ≤ b ∧ (Value.slice A5 (na + 1) c5).ownBlock ≠ some b) ∧ (Value.slice Aa na ca).ownBlock ≠ some b) (fun b hb hf => ⟨⟨hf.1, hnew b hb hf.2⟩, hf.2⟩)).keep gr.size (fun p hp hf => World.cell?_of_block (gr.block _ hp (fun e => hf.2 e.symm)))).imp (fun b _ hf => hf.1)
          have P2n := (((P2.below al5).imp (F' := fun b => (w1.heap.size ≤ b ∧ (Value.slice A5 (na + 1) c5).ownBlock ≠ some b) ∧ (Value.slice Aa na ca).ownBlock ≠ some b) (fun b hb hf => ⟨⟨hf.1, hnew b hb hf.2⟩, hf.2⟩)).keep gr.size (fun p hp hf => World.cell?_of_block (gr.block _ hp (fun e => hf.2 e.symm)))).imp (fun b _ hf => hf.1)
          have bb5 : Below w1.heap.size w1 w5 := (bb.trans (al5.mono hbd)).grown gr (Nat.le_trans hbd al5.size) (fun x hx => (hlt5 x hx).1)
          have S5a := (Bv.under al5).same (gr.block _ (Bv.under al5).lt (fun e => hvo (by exact e.symm)))
          have S5b := (World.cell?_of_block (gr.block _ (show gp < _ from Nat.lt_of_lt_of_le hgd al5.size) (fun e => hFp.2 (by exact e.symm)))).trans ((al5.cell (p := ⟨gp, op + j, none⟩) hgd).trans cp)
          clear hrd Bs hlt5 hl5 hnew gr R2 P2 hSr hAr
          try simp only [Act.put, List.setIfInBounds_toArray, List.set_cons_zero, List.set_cons_succ]
          refine wpAnyH_take (i := 0) (v := ?_) (by simp only [List.getElem?_toArray, List.getElem?_cons_zero]; rfl) (by kernel_rfl) (by kernel_rfl) (by kernel_rfl) (by intro _ _ _ h; exact h) (Or.inl ⟨by rfl, ?_⟩) hHeld ?_
          rotate_left 1
          · intro wq hSw
            try dsimp only at hSw
            go_simp
            try (with_reducible rfl)
          try simp only [Act.put, List.setIfInBounds_toArray, List.set_cons_zero, List.set_cons_succ]
          refine wpAnyH_take (i := 1) (v := ?_) (by simp only [List.getElem?_toArray, List.getElem?_cons_succ, List.getElem?_cons_zero]; rfl) (by kernel_rfl) (by kernel_rfl) (by kernel_rfl) (by intro _ _ _ h; exact h) (Or.inl ⟨by rfl, ?_⟩) hHeld ?_
          rotate_left 1
          · intro wq hSw
            try dsimp only at hSw
            obtain ⟨x0, x1, x2, _⟩ := hSw.1.three
            go_simp
            try (with_reducible rfl)
          try simp only [Act.put, List.setIfInBounds_toArray, List.set_cons_zero, List.set_cons_succ]
          refine wpAnyH_take (i := 2) (v := ?_) (by simp only [List.getElem?_toArray, List.getElem?_cons_succ, List.getElem?_cons_zero]; rfl) (by kernel_rfl) (by kernel_rfl) (by kernel_rfl) (by intro _ _ _ h; exact h) (Or.inl ⟨by rfl, ?_⟩) hHeld ?_
          rotate_left 1
          · intro wq hSw
            try dsimp only at hSw
            go_simp
            try (with_reducible rfl)
          try simp only [Act.put, List.setIfInBounds_toArray, List.set_cons_zero, List.set_cons_succ]
          refine wpAnyH_take (i := 3) (v := ?_) (by simp only [List.getElem?_toArray, List.getElem?_cons_succ, List.getElem?_cons_zero]; rfl) (by kernel_rfl) (by kernel_rfl) (by kernel_rfl) (by intro _ _ _ h; exact h) (Or.inl ⟨by rfl, ?_⟩) hHeld ?_
          rotate_left 1
          · intro wq hSw
            try dsimp only at hSw
            go_simp
            try (with_reducible rfl)
          try simp only [Act.put, List.setIfInBounds_toArray, List.set_cons_zero, List.set_cons_succ]
          refine wpAnyH_take (i := 4) (v := ?_) (by simp only [List.getElem?_toArray, List.getElem?_cons_succ, List.getElem?_cons_zero]; rfl) (by kernel_rfl) (by kernel_rfl) (by kernel_rfl) (by intro _ _ _ h; exact h) (Or.inl ⟨by rfl, ?_⟩) hHeld ?_
          rotate_left 1
          · intro wq hSw
            try dsimp only at hSw
            go_simp
            try (with_reducible rfl)
          try simp only [Act.put, List.setIfInBounds_toArray, List.set_cons_zero, List.set_cons_succ]
          refine wpAnyH_take (i := 5) (v := .pointer (some ⟨gp, op + j, none⟩)) (by simp only [List.getElem?_toArray, List.getElem?_cons_succ, List.getElem?_cons_zero]; rfl) (by kernel_rfl) (by kernel_rfl) (by kernel_rfl) (by intro _ _ _ h; exact h) (Or.inl ⟨by rfl, ?_⟩) hHeld ?_
          · intro wq hSw
            try dsimp only at hSw
            go_simp
            all_goals (first | (with_reducible rfl) | (intro hh; exfalso; omega))
          try simp only [Act.put, List.setIfInBounds_toArray, List.set_cons_zero, List.set_cons_succ]
          refine wpAnyH_take (i := 6) (v := ?_) (by simp only [List.getElem?_toArray, List.getElem?_cons_succ, List.getElem?_cons_zero]; rfl) (by kernel_rfl) (by kernel_rfl) (by kernel_rfl) (by intro _ _ _ h; exact h) (Or.inl ⟨by rfl, ?_⟩) hHeld ?_
          rotate_left 1
          · intro wq hSw
            try dsimp only at hSw
            have x0 := hSw.2
            go_simp
            try (with_reducible rfl)
          try simp only [Act.put, List.setIfInBounds_toArray, List.set_cons_zero, List.set_cons_succ]
          refine wpAnyH_take (i := 7) (v := ?_) (by simp only [List.getElem?_toArray, List.getElem?_cons_succ, List.getElem?_cons_zero]; rfl) (by kernel_rfl) (by kernel_rfl) (by kernel_rfl) (by intro _ _ _ h; exact h) (Or.inl ⟨by rfl, ?_⟩) hHeld ?_
          rotate_left 1
          · intro wq hSw
            try dsimp only at hSw
            go_simp
            try (with_reducible rfl)
          try simp only [Act.put, List.setIfInBounds_toArray, List.set_cons_zero, List.set_cons_succ]
          refine wpAnyH_ready (rs := [8]) (by kernel_rfl) (by simp) ?_
          refine AllReadyH.cons (by simp only [List.getElem?_toArray, List.getElem?_cons_succ, List.getElem?_cons_zero]; rfl) (fun K hK => ?_) AllReadyH.nil
          go_simp
          refine hK.out _ _ (⟨hHeld.1.under al5, (al5.cell (p := ⟨gp, op + j, none⟩) hgd).trans hHeld.2⟩) (fun hHeld => ?_)
          clear hK K
          try dsimp only at hHeld
          try simp only [Act.put, List.setIfInBounds_toArray, List.set_cons_zero, List.set_cons_succ]
          refine wpAnyH_ready (rs := [9]) (by kernel_rfl) (by simp) ?_
          refine AllReadyH.cons (by simp only [List.getElem?_toArray, List.getElem?_cons_succ, List.getElem?_cons_zero]; rfl) (fun K hK => ?_) AllReadyH.nil
          refine (if_pos (by rfl)).mpr (wp_app (.tmp 35) (.tmp 43) 22 rfl rfl rfl hrun ?_)
          refine hK.out _ _ (⟨S5a, S5b⟩) (fun hHeld => ?_)
          clear hK K
          try dsimp only at hHeld
          try simp only [Act.put, List.setIfInBounds_toArray, List.set_cons_zero, List.set_cons_succ]
          refine wpAnyH_take (i := 10) (v := ?_) (by simp only [List.getElem?_toArray, List.getElem?_cons_succ, List.getElem?_cons_zero]; rfl) (by kernel_rfl) (by kernel_rfl) (by kernel_rfl) (by intro _ _ _ h; exact h) (Or.inl ⟨by rfl, ?_⟩) hHeld ?_
          rotate_left 1
          · intro wq hSw
            try dsimp only at hSw
            go_simp
            try (with_reducible rfl)
          try simp only [Act.put, List.setIfInBounds_toArray, List.set_cons_zero, List.set_cons_succ]
          refine wpAnyH_done (by kernel_rfl) ?_ _
          go_wp2
          go_roundg g2
          case measure => omega
          case rel => exact ⟨j + 1, A5, na + 1, c5, _, by omega, rfl, by first | rfl | (simp; done), hr3, R5, R2n, P2n, bb5⟩
        · have hr3 : Hid (raw = ds ++ rawG (k + 1) (zs.drop (k + 1))) := by
            show raw = _
            rw [hr.out, List.drop_of_length_le (by rw [zoneF, List.length_map, hsc.out, ← hk2.out]; omega)]
            rfl
          clear hr R2 P2
          go_wp2
          go_roundg g
          case measure => omega
          case rel => exact ⟨k + 1, Aa, na, ca, ds, by omega, rfl, by first | rfl | (simp; done), hr3, hR, bb⟩
    · have hds : ds = raw := by
        rw [hr.out, List.drop_of_length_le (by omega)]
        simp [rawG]
      subst hds
      have hnl := hR.len
      have h20 := hrl.out
      go_wp2_with fail
      refine (gSort_any Aa na ca ds wr hR (by omega) bb2.size).mono ?_
      rintro e w2 ⟨rfl, Rz, b2⟩
      go_wp2
      go_ret2
      have hxo := hxs.out
      subst hxo
      exact ⟨Aa, na, ca, by rw [sortK_length]; exact hnl.symm, rfl, Rz.imp (fun b _ hb => by omega), bb.trans ((bb2.trans b2).mono (by omega))⟩
end Go.Proofs.YtnejiclghnigiaaDoor
namespace Go.Proofs.YtnejiclghnigiaaDoor
open Go.RowKit Go.Wag
set_option linter.unusedVariables false
set_option maxRecDepth 20000

set_option maxHeartbeats 1000000 in
theorem gcopied_any (k s : Int) (A : Option Addr) (n c : Nat) (l : List UInt8) (w : World) (h : Sl w A n c (l.map v8)) (hn : n ≤ 10000000000000) :
    Calls Tryd.prog 30 #[.agg #[.int .i64 k, .int .i64 s, .slice A n c]] w fun e w' => ∃ A', e = .returned (.agg #[.int .i64 k, .int .i64 s, .slice A' n n]) ∧ Nw 5 w w' A' n n (l.map v8) ∧ Below w.heap.size w w' := by
  have hlen := h.len
  have hcap := h.cap
  have hbig := h.big
  obtain ⟨i0, hi, hz0, hz1, hz2⟩ := info_parts i5
  have hmk := fun W => run_mk (P := Tryd.prog) 24 5 i0 (.int .u8 0) 1 Tryd.underlying24 hi hz0 hz1 hz2 rfl .i64 .i64 (n : Int) (n : Int) n n rfl rfl (by omega) (by omega) (by omega) W
  go_enter Tryd.func30, Tryd.ntmps30
  have B1 := ((Blk.new w #[.int .i64 k, .int .i64 s, .slice A n c] 26).alloc (.cells #[.int .i64 0, .int .i64 0, .slice none 0 0] 26)).alloc (.cells (mk0 (.int .u8 0) n) 5)
  have B2 := (Blk.new (w.alloc (.cells #[.int .i64 k, .int .i64 s, .slice A n c] 26)) #[.int .i64 0, .int .i64 0, .slice none 0 0] 26).alloc (.cells (mk0 (.int .u8 0) n) 5)
  have HO := Own.made ((w.alloc (.cells #[.int .i64 k, .int .i64 s, .slice A n c] 26)).alloc (.cells #[.int .i64 0, .int .i64 0, .slice none 0 0] 26)) (.int .u8 0) 5 n n (by omega) (by omega)
  have b1 := ((Below.refl w.heap.size w).alloc (Nat.le_refl _) (.cells #[.int .i64 k, .int .i64 s, .slice A n c] 26)).alloc (by simp) (.cells #[.int .i64 0, .int .i64 0, .slice none 0 0] 26)
  have HC := ((h.alloc (.cells #[.int .i64 k, .int .i64 s, .slice A n c] 26)).alloc (.cells #[.int .i64 0, .int .i64 0, .slice none 0 0] 26)).alloc (.cells (mk0 (.int .u8 0) n) 5)
  simp only [World.size_alloc] at HO B2 B1
  go_wp2_with (with_reducible refine wpList_cpy rfl (.tmp 8) (.tmp 10) 24 24 rfl rfl HO Tryd.underlying24 sz5 _ _ _ _ rfl HC (oneCell8 l) ?_
               intro w4 hw4
               rw [cpy_full _ _ _ hlen] at hw4
               have B3 := B1.ownAt hw4 (by omega)
               have B4 := B2.ownAt hw4 (by omega)
               obtain ⟨c0, c1, c2, f0, f1, f2⟩ := B3.three
               obtain ⟨d0, d1, d2, g0, g1, g2⟩ := B4.three)
  try simp only [Exit.inBlock, Exit.then]
  have hN0 : Nw 5 w w4 (some ⟨w.heap.size + 1 + 1, 0, none⟩) n n (l.map v8) := Nw.mono (w1 := (w.alloc (.cells #[] 0)).alloc (.cells #[] 0)) (by simpa [Nw] using hw4.own) (by simp; omega)
  have b4 : Below w.heap.size w w4 := hw4.belowAt (b1.alloc (by simp; omega) _) (by simp; omega) (by omega)
  refine ret_blk (g := w.heap.size + 1) rfl rfl ((((B4.far (by simp) _).set 0 _).set 1 _).set 2 _) Tryd.underlying26 (by kernel_rfl) ⟨_, rfl, ?_, ?_⟩
  · exact (((hN0.far (apart_at (by simp <;> omega)) _).far (apart_at (by simp <;> omega)) _).far (apart_at (by simp <;> omega)) _).far (apart_at (by simp <;> omega)) _
  · exact (((b4.setCell (Nat.le_refl _) _).setCell (by simp) _).setCell (by simp) _).setCell (by simp) _

/-! Maps from numbers to numbers. -/
abbrev fnow (a : Int) (es : Array MapEntry) := Instr.findNow (.int .i64) (.int .i64 a) es.toList 0
theorem same_now (a b : Int) : Instr.sameNow (.int .i64) (.int .i64 a) (.int .i64 b) = some (decide (a = b)) := by
  first | rfl | (simp [Instr.sameNow]; done) | (unfold Instr.sameNow; simp; rfl)
theorem findNow_snoc (a b : Int) (v : Value) (cl : Nat) : ∀ (l : List MapEntry) (i : Nat), Instr.findNow (.int .i64) (.int .i64 a) (l ++ [⟨.int .i64 b, v, cl⟩]) i =
    (match Instr.findNow (.int .i64) (.int .i64 a) l i with | some none => (if a = b then some (some (i + l.length, v)) else some none) | r => r)
  | [], i => by
    simp only [List.nil_append, Instr.findNow, same_now, List.length_nil, Nat.add_zero]
    by_cases h : a = b <;> simp [h]
  | e :: l, i => by
    simp only [List.cons_append, Instr.findNow, List.length_cons]
    cases hs : Instr.sameNow (.int .i64) (.int .i64 a) e.key with
    | none => rfl
    | some t =>
      cases t with
      | true => rfl
      | false =>
        simp only
        rw [findNow_snoc a b v cl l (i + 1)]
        have : i + 1 + l.length = i + (l.length + 1) := by omega
        rw [this]
theorem run_look (W : World) (r : Nat) (es : Array MapEntry) (clock : Nat) (a : Int) (hb : W.heap[r]? = some (.map es clock)) (i : Nat) (v : Value) (hf : fnow a es = some (some (i, v))) :
    (Instr.lookup 70 (.map (some r)) (.int .i64 a) true).run Tryd.prog W = .ok (.tuple #[v, .bool true]) W := by
  have hc : (Instr.checkKey es.isEmpty 10000 3 (.int .i64 a)).run Tryd.prog W = .ok () W := MapKept.run_checkKey (k := .int .i64 a) Tryd.underlying3 (by simp [MapKept.IsKey]) _ 9999
  simp [Instr.lookup, run_underlying Tryd.underlying70, MapKept.run_getObj_map hb, hc, MapKept.run_findKey Tryd.underlying3 hf, Result.andThen]
theorem run_look_no (W : World) (r : Nat) (es : Array MapEntry) (clock : Nat) (a : Int) (hb : W.heap[r]? = some (.map es clock)) (hf : fnow a es = some none) :
    (Instr.lookup 70 (.map (some r)) (.int .i64 a) true).run Tryd.prog W = .ok (.tuple #[.int .i64 0, .bool false]) W := by
  have hc : (Instr.checkKey es.isEmpty 10000 3 (.int .i64 a)).run Tryd.prog W = .ok () W := MapKept.run_checkKey (k := .int .i64 a) Tryd.underlying3 (by simp [MapKept.IsKey]) _ 9999
  have hz : (zeroValue 3).run Tryd.prog W = .ok (.int .i64 0) W := by kernel_rfl
  simp [Instr.lookup, run_underlying Tryd.underlying70, MapKept.run_getObj_map hb, hc, MapKept.run_findKey Tryd.underlying3 hf, Result.andThen, hz]
def putObj (W : World) (r : Nat) (o : Obj) : World := { W with heap := W.heap.setIfInBounds r o }
theorem run_put (W : World) (r : Nat) (es : Array MapEntry) (clock : Nat) (a : Int) (val : Value) (hb : W.heap[r]? = some (.map es clock)) (hf : fnow a es = some none) :
    (Instr.mapUpdate 70 (.map (some r)) (.int .i64 a) val).run Tryd.prog W = .ok () (putObj W r (.map (es.push ⟨.int .i64 a, val, clock⟩) (clock + 1))) := by
  have hc : (Instr.checkKey false 10000 3 (.int .i64 a)).run Tryd.prog W = .ok () W := MapKept.run_checkKey (k := .int .i64 a) Tryd.underlying3 (by simp [MapKept.IsKey]) false 9999
  simp [Instr.mapUpdate, run_underlying Tryd.underlying70, MapKept.run_getObj_map hb, hc, MapKept.run_findKey Tryd.underlying3 hf, MapKept.run_setObj_map _ hb, Result.andThen, putObj]
theorem putObj_at {W : World} {r : Nat} (hr : r < W.heap.size) (o : Obj) : (putObj W r o).heap[r]? = some o := by simp [putObj, hr]
theorem putObj_below {w W : World} {B r : Nat} (h : Below B w W) (hr : B ≤ r) (o : Obj) : Below B w (putObj W r o) :=
  ⟨h.os, h.tape, h.output, by simpa [putObj] using h.size, fun k hk => by
    rw [← h.block k hk]
    simp only [putObj]
    rw [Array.getElem?_setIfInBounds_ne (by omega)]⟩

/-- Where the first record of a number is. -/
def idxS (xs : List Fp) (s : Int) : Option Nat := xs.findIdx? (fun f => decide (f.r.s = s))
def MpOk (es : Array MapEntry) (xs : List Fp) : Prop := ∀ s, match idxS xs s with | none => fnow s es = some none | some i => ∃ m, fnow s es = some (some (m, .int .i64 (i : Int)))
theorem MpOk.no {es : Array MapEntry} {xs : List Fp} (h : MpOk es xs) {s : Int} (hs : idxS xs s = none) : fnow s es = some none := by
  have := h s
  rw [hs] at this
  exact this
theorem MpOk.yes {es : Array MapEntry} {xs : List Fp} (h : MpOk es xs) {s : Int} {i : Nat} (hs : idxS xs s = some i) : ∃ m, fnow s es = some (some (m, .int .i64 (i : Int))) := by
  have := h s
  rw [hs] at this
  exact this
theorem idxS_snoc (xs : List Fp) (x : Fp) (s : Int) : idxS (xs ++ [x]) s = (match idxS xs s with | some i => some i | none => if x.r.s = s then some xs.length else none) := by
  unfold idxS
  rw [List.findIdx?_append]
  cases List.findIdx? (fun f : Fp => decide (f.r.s = s)) xs with
  | some i => rfl
  | none => by_cases h : x.r.s = s <;> simp [List.findIdx?_cons, h]
theorem MpOk.old {es : Array MapEntry} {xs : List Fp} {x : Fp} {i : Nat} (h : MpOk es xs) (hs : idxS xs x.r.s = some i) : MpOk es (xs ++ [x]) := fun s => by
  have hh := h s
  rw [idxS_snoc]
  cases hi : idxS xs s with
  | some j => rw [hi] at hh; exact hh
  | none =>
    rw [hi] at hh
    have hne : ¬ x.r.s = s := fun e => by rw [← e, hs] at hi; cases hi
    simp only [if_neg hne]
    exact hh
theorem MpOk.new {es : Array MapEntry} {xs : List Fp} {x : Fp} {cl k : Nat} (h : MpOk es xs) (hs : idxS xs x.r.s = none) (hk : xs.length = k) : MpOk (es.push ⟨.int .i64 x.r.s, .int .i64 (k : Int), cl⟩) (xs ++ [x]) := fun s => by
  have hh := h s
  rw [idxS_snoc]
  have hp : fnow s (es.push ⟨.int .i64 x.r.s, .int .i64 (k : Int), cl⟩) = (match fnow s es with | some none => (if s = x.r.s then some (some (0 + es.toList.length, .int .i64 (k : Int))) else some none) | r => r) := by
    unfold fnow
    rw [Array.toList_push]
    exact findNow_snoc s x.r.s _ cl es.toList 0
  cases hi : idxS xs s with
  | some j =>
    rw [hi] at hh
    obtain ⟨m, hm⟩ := hh
    exact ⟨m, by rw [hp, hm]⟩
  | none =>
    rw [hi] at hh
    simp only at hh
    rw [hh] at hp
    by_cases e : x.r.s = s
    · simp only [if_pos e]
      exact ⟨_, by rw [hp, if_pos e.symm, hk]⟩
    · simp only [if_neg e]
      rw [hp, if_neg (fun e2 => e e2.symm)]

def FirstPost (w : World) (xs : List Fp) (e : Ending) (w' : World) : Prop := ∃ r es cl, e = .returned (.map (some r)) ∧ w'.heap[r]? = some (.map es cl) ∧ MpOk es xs ∧ Below w.heap.size w w'
set_option maxHeartbeats 2000000 in
theorem gFirst_any {F : Nat → Prop} (A : Option Addr) (n c : Nat) (xs : List Fp) (w : World) (h : Rs fndE F w A n c xs) :
    Calls Tryd.prog 29 #[.slice A n c] w (FirstPost w xs) := by
  have hlen := h.len
  have hcap := h.cap
  have hbig := h.big
  have hmm := run_makeMap (P := Tryd.prog) 70 w
  have a0 := (Below.refl w.heap.size w).alloc (Nat.le_refl _) (.map #[] 0)
  have hm0 := (MapKept.heap_alloc w (.map #[] 0)).1
  go_enter Tryd.func29, Tryd.ntmps29
  go_wp2_with fail
  generalize w.alloc (.map #[] 0) = w0 at *
  go_loopg [11] n (fun g iv wr => ∃ (k : Nat) (es : Array MapEntry) (cl : Nat), k + g = n ∧ iv = .int .i64 (k : Int) ∧ wr.heap[w.heap.size]? = some (.map es cl) ∧ Aside (MpOk es (xs.take k)) ∧ Below w.heap.size w wr)
  case atStart => exact ⟨0, #[], 0, by omega, rfl, hm0, fun s => rfl, a0⟩
  case round =>
    clear hm0 a0
    obtain ⟨k, es, cl, hk, rfl, hm, hok, bb⟩ := hrel
    by_cases hlt : (k : Int) < (n : Int)
    · obtain ⟨g, rfl⟩ : ∃ g, gk = g + 1 := ⟨gk - 1, by omega⟩
      obtain ⟨gb, o, x, Ai, ci, rfl, hF, hg, hx, c0', c1', c2', c3', c4', hS, hA⟩ := Rs.fnd_at h (show k < n by omega)
      have c0 := (bb.cell hg).trans c0'
      have c1 := (bb.cell hg).trans c1'
      have c2 := (bb.cell hg).trans c2'
      have c3 := (bb.cell hg).trans c3'
      have c4 := (bb.cell hg).trans c4'
      have htk : Aside (xs.take (k + 1) = xs.take k ++ [x]) := by
        show xs.take (k + 1) = xs.take k ++ [x]
        rw [List.take_add_one, hx]; rfl
      have htl : (xs.take k).length = k := by rw [List.length_take]; omega
      clear c0' c1' c2' c3' c4' hx hA
      have al := (Below.refl wr.heap.size wr).alloc (Nat.le_refl _) (.cells #[.int .i64 x.r.k, .int .i64 x.r.s, .slice Ai x.r.l.length ci, .int .i64 x.zn, .int .i64 x.at_] 28)
      have Bv := Blk.new wr #[.int .i64 x.r.k, .int .i64 x.r.s, .slice Ai x.r.l.length ci, .int .i64 x.zn, .int .i64 x.at_] 28
      have hml := (Array.getElem?_eq_some_iff.1 hm).1
      have hm1 := (al.block w.heap.size hml).trans hm
      have bb1 := bb.alloc bb.size (.cells #[.int .i64 x.r.k, .int .i64 x.r.s, .slice Ai x.r.l.length ci, .int .i64 x.zn, .int .i64 x.at_] 28)
      have hml1 := (Array.getElem?_eq_some_iff.1 hm1).1
      obtain ⟨v0, v1, v2, v3, v4, _⟩ := Bv.five
      cases hi : idxS (xs.take k) x.r.s with
      | some i =>
        obtain ⟨m, hfm⟩ := hok.out.yes hi
        have hlk := run_look (wr.alloc (.cells #[.int .i64 x.r.k, .int .i64 x.r.s, .slice Ai x.r.l.length ci, .int .i64 x.zn, .int .i64 x.at_] 28)) w.heap.size es cl x.r.s hm1 m _ hfm
        have hok2 : Aside (MpOk es (xs.take (k + 1))) := by
          show MpOk es _
          rw [htk.out]
          exact hok.out.old hi
        clear hfm hi hok htk htl
        go_wp2
        go_roundg g
        case measure => omega
        case rel => exact ⟨k + 1, es, cl, by omega, by first | rfl | (simp; done), hm1, hok2, bb1⟩
      | none =>
        have hlk := run_look_no (wr.alloc (.cells #[.int .i64 x.r.k, .int .i64 x.r.s, .slice Ai x.r.l.length ci, .int .i64 x.zn, .int .i64 x.at_] 28)) w.heap.size es cl x.r.s hm1 (hok.out.no hi)
        have hup := run_put (wr.alloc (.cells #[.int .i64 x.r.k, .int .i64 x.r.s, .slice Ai x.r.l.length ci, .int .i64 x.zn, .int .i64 x.at_] 28)) w.heap.size es cl x.r.s (.int .i64 (k : Int)) hm1 (hok.out.no hi)
        have hok2 : Aside (MpOk (es.push ⟨.int .i64 x.r.s, .int .i64 (k : Int), cl⟩) (xs.take (k + 1))) := by
          show MpOk _ _
          rw [htk.out]
          exact hok.out.new hi htl
        clear hi hok htk htl
        have hm2 := putObj_at hml1 (.map (es.push ⟨.int .i64 x.r.s, .int .i64 (k : Int), cl⟩) (cl + 1))
        have bb2 := putObj_below bb1 (Nat.le_refl _) (.map (es.push ⟨.int .i64 x.r.s, .int .i64 (k : Int), cl⟩) (cl + 1))
        generalize hes : es.push ⟨.int .i64 x.r.s, .int .i64 (k : Int), cl⟩ = es2 at *
        generalize putObj (wr.alloc (.cells #[.int .i64 x.r.k, .int .i64 x.r.s, .slice Ai x.r.l.length ci, .int .i64 x.zn, .int .i64 x.at_] 28)) w.heap.size (.map es2 (cl + 1)) = w2 at *
        go_wp2
        go_roundg g
        case measure => omega
        case rel => exact ⟨k + 1, es2, cl + 1, by omega, by first | rfl | (simp; done), hm2, hok2, bb2⟩
    · have hkk : xs.take k = xs := List.take_of_length_le (by omega)
      have hok2 := hok.out
      rw [hkk] at hok2
      go_wp2
      go_ret
      exact ⟨_, es, cl, rfl, hm, hok2, bb⟩

/-- The records that follow one another from s on (at most so many). -/
def runN (xs : List Fp) : Nat → Int → List Rp
  | 0, _ => []
  | g + 1, s => match idxS xs s with
    | none => []
    | some i => ((xs[i]?).map (·.r)).toList ++ (if s = 9223372036854775807 then [] else runN xs g (s + 1))
def runF (xs : List Fp) (s : Int) : List Rp := runN xs (xs.length + 1) s
def leftN (xs : List Fp) (s : Int) : Nat := xs.countP (fun f => decide (s ≤ f.r.s))
theorem idxS_some {xs : List Fp} {s : Int} {i : Nat} (h : idxS xs s = some i) : ∃ x, xs[i]? = some x ∧ x.r.s = s ∧ i < xs.length := by
  unfold idxS at h
  rw [List.findIdx?_eq_some_iff_getElem] at h
  obtain ⟨hi, h1, _⟩ := h
  exact ⟨xs[i], List.getElem?_eq_getElem hi, by simpa using h1, hi⟩
theorem left_step {xs : List Fp} {s : Int} {i : Nat} (h : idxS xs s = some i) : leftN xs (s + 1) < leftN xs s := by
  obtain ⟨x, hx, hs, _⟩ := idxS_some h
  have hm : x ∈ xs := List.mem_of_getElem? hx
  unfold leftN
  have : ∀ l : List Fp, x ∈ l → l.countP (fun f => decide (s + 1 ≤ f.r.s)) < l.countP (fun f => decide (s ≤ f.r.s)) := by
    intro l
    induction l with
    | nil => intro h; cases h
    | cons y l ih =>
      intro hy
      have mono : l.countP (fun f => decide (s + 1 ≤ f.r.s)) ≤ l.countP (fun f => decide (s ≤ f.r.s)) := List.countP_mono_left (fun z _ hz => by simp at hz ⊢; omega)
      rw [List.countP_cons, List.countP_cons]
      rcases List.mem_cons.1 hy with rfl | hy
      · simp only [decide_eq_true_eq]
        rw [if_neg (by omega), if_pos (by omega)]
        omega
      · have := ih hy
        simp only [decide_eq_true_eq]
        split <;> split <;> omega
  exact this xs hm
theorem run_some {xs : List Fp} {g : Nat} {s : Int} {i : Nat} {x : Fp} (h : idxS xs s = some i) (hx : xs[i]? = some x) (hs : s ≠ 9223372036854775807) : runN xs (g + 1) s = x.r :: runN xs g (s + 1) := by
  simp only [runN, h, hx, if_neg hs]
  rfl
theorem run_last {xs : List Fp} {g : Nat} {s : Int} {i : Nat} {x : Fp} (h : idxS xs s = some i) (hx : xs[i]? = some x) (hs : s = 9223372036854775807) : runN xs (g + 1) s = [x.r] := by
  simp only [runN, h, hx, if_pos hs]
  rfl
theorem run_none {xs : List Fp} {g : Nat} {s : Int} (h : idxS xs s = none) : runN xs (g + 1) s = [] := by rw [runN, h]

/-- Records in memory. -/
def RunPost (w : World) (rs : List Rp) (e : Ending) (w' : World) : Prop :=
  ∃ A k c, k = rs.length ∧ e = .returned (.slice A k c) ∧ Rs recE (fun b => w.heap.size ≤ b) w' A k c rs ∧ Below w.heap.size w w'

set_option maxHeartbeats 4000000 in
theorem gRun_any {F : Nat → Prop} (A : Option Addr) (n c : Nat) (xs : List Fp) (s : Int) (w : World) (h : Rs fndE F w A n c xs) (hs0 : -9223372036854775808 ≤ s) (hs1 : s < 9223372036854775808) (hn : n ≤ 1000000) (hb : ∀ x ∈ xs, x.r.l.length ≤ 10000) (rs : List Rp) (hr : runF xs s = rs) :
    Calls Tryd.prog 11 #[.slice A n c, .int .i64 s] w (RunPost w rs) := by
  obtain ⟨iR, hiR, hzR, hsR, hbR⟩ := iRec
  have hlen := h.len
  have hcap := h.cap
  have hbig := h.big
  have hbA : Aside (∀ x ∈ xs, x.r.l.length ≤ 10000) := hb
  have hr0 : Hid (rs = [] ++ runN xs (n + 1) s) := by
    show rs = _
    rw [← hr, runF, hlen]
    rfl
  clear hr hb
  go_enter Tryd.func11, Tryd.ntmps11
  go_wp2_with fail
  refine (gFirst_any A n c xs w h).mono ?_
  rintro e w1 ⟨rm, es, cl, rfl, hm, hok, b1⟩
  have hokA : Aside (MpOk es xs) := hok
  have hml := (Array.getElem?_eq_some_iff.1 hm).1
  have hlf : leftN xs s < n + 1 := Nat.lt_succ_of_le (by rw [← hlen]; exact List.countP_le_length)
  clear hok
  go_wp2_with fail
  go_loopg [6, 7] (n + 1) (fun g rv sv wr => ∃ (k : Nat) (Aa : Option Addr) (ca : Nat) (ds : List Rp) (s : Int), rv = .slice Aa k ca ∧ sv = .int .i64 s ∧ -9223372036854775808 ≤ s ∧ s < 9223372036854775808 ∧ leftN xs s < g ∧ k + g = n + 1 ∧ Hid (rs = ds ++ runN xs g s) ∧ Rq recE (fun b => w1.heap.size ≤ b) w1.heap.size 26 wr Aa k ca ds ∧ Below w1.heap.size w1 wr)
  case atStart => exact ⟨0, none, 0, [], s, rfl, rfl, hs0, hs1, hlf, by omega, hr0, Rq.nil _ _ _ _ _, Below.refl _ _⟩
  case round =>
    clear hs0 hs1 hlf hr0
    obtain ⟨k, Aa, ca, ds, s, rfl, rfl, hs0, hs1, hlf, hkg, hr, hR, bb⟩ := hrel
    obtain ⟨g, rfl⟩ : ∃ g, gk = g + 1 := ⟨gk - 1, by omega⟩
    have hmw := (bb.block rm hml).trans hm
    cases hi : idxS xs s with
    | none =>
      have hlk := run_look_no wr rm es cl s hmw (hokA.out.no hi)
      have hds : Hid (rs = ds) := by
        show rs = ds
        rw [hr.out, run_none hi, List.append_nil]
      have hnl := hR.len
      clear hi hr
      go_wp2
      go_ret
      rw [hds.out]
      exact ⟨Aa, k, ca, hnl.symm, rfl, (hR.toRs (fun b _ hb => hb)).imp (fun b _ hb => Nat.le_trans b1.size hb), b1.trans (bb.mono b1.size)⟩
    | some i =>
      obtain ⟨m, hfm⟩ := hokA.out.yes hi
      have hlk := run_look wr rm es cl s hmw m _ hfm
      obtain ⟨x, hx, -, hil⟩ := idxS_some hi
      have hxb := hbA.out x (List.mem_of_getElem? hx)
      have hst := left_step hi
      obtain ⟨gb, o, x', Ai, ci, rfl, hF, hg, hx', c0', c1', c2', c3', c4', hS, hA⟩ := Rs.fnd_at h (show i < n by omega)
      obtain rfl : x = x' := Option.some.inj (hx.symm.trans hx')
      have hin : i < n := by omega
      have hbw := b1.trans (bb.mono b1.size)
      have c0 := (hbw.cell hg).trans c0'
      have c1 := (hbw.cell hg).trans c1'
      have c2 := (hbw.cell hg).trans c2'
      have hSw := hS.below hbw
      clear c0' c1' c2' c3' c4' hx' hfm hA hS
      go_wp2_with fail
      refine (gcopied_any x.r.k x.r.s Ai x.r.l.length ci x.r.l wr hSw (by omega)).mono ?_
      rintro e w2 ⟨A2, rfl, N2, b2⟩
      have hR2 := hR.under b2
      have bb2 := bb.trans (b2.mono bb.size)
      have hlo := hR.lt
      have hbs := bb.size
      have al := (Below.refl w2.heap.size w2).alloc (Nat.le_refl _) (.cells #[.int .i64 x.r.k, .int .i64 x.r.s, .slice A2 x.r.l.length x.r.l.length] 26)
      have Bs := Blk.new w2 #[.int .i64 x.r.k, .int .i64 x.r.s, .slice A2 x.r.l.length x.r.l.length] 26
      have hrd : recE.rd (fun b => w1.heap.size ≤ b ∧ (Value.slice Aa k ca).ownBlock ≠ some b) w2 [.int .i64 x.r.k, .int .i64 x.r.s, .slice A2 x.r.l.length x.r.l.length] x.r := by
        refine ⟨A2, _, rfl, Sl.of_own N2, fun hn ad e => ?_⟩
        subst e
        have hge := (World.ownsRow.lt N2 ad.block rfl).1
        exact ⟨by omega, fun e2 => by have := (hlo _ e2).2; omega⟩
      obtain ⟨A5, c5, w5, hrun, R5, gr, hl5⟩ := (hR2.under al).app (P := Tryd.prog) (T := 30) (ty := 30) Tryd.underlying30 hiR hzR hsR hbR rfl (Nat.le_trans bb2.size al.size) (by omega) (by omega) (Elt.below hrd al) (one_rec _ _ _ _ _) Bs
      have hlo2 := (hR2.under al).lt
      have bb5 : Below w1.heap.size w1 w5 := (bb2.trans (al.mono bb2.size)).grown gr (Nat.le_trans bb2.size al.size) (fun y hy => (hlo2 y hy).1)
      clear hrd Bs hlo hlo2 hbs hR hR2 bb bb2 al N2 gr hl5 b2
      by_cases hmax : s = 9223372036854775807
      · have hds : Hid (rs = ds ++ [x.r]) := by
          show rs = _
          rw [hr.out, run_last hi hx hmax]
        subst hmax
        have hnl := R5.len
        clear hi hr hx hst hlf
        go_wp2_with (at_builtin; first | (refine wpList_run rfl (.tmp 24) (.tmp 31) 30 rfl rfl rfl hrun ?_; intro _))
        go_ret
        rw [hds.out]
        exact ⟨A5, k + 1, c5, hnl.symm, rfl, (R5.toRs (fun b _ hb => hb)).imp (fun b _ hb => Nat.le_trans b1.size hb), b1.trans (bb5.mono b1.size)⟩
      · have hds : Hid (rs = (ds ++ [x.r]) ++ runN xs g (s + 1)) := by
          show rs = _
          rw [hr.out, run_some hi hx hmax]
          simp
        clear hi hr hx
        go_wp2_with (at_builtin; first | (refine wpList_run rfl (.tmp 24) (.tmp 31) 30 rfl rfl rfl hrun ?_; intro _))
        go_roundg g
        case measure => omega
        case rel => exact ⟨k + 1, A5, c5, _, s + 1, rfl, by first | rfl | (simp; done) | (simp; exact wrap64_small (by omega) (by omega)), by omega, by omega, by omega, by omega, hds, R5, bb5⟩
end Go.Proofs.YtnejiclghnigiaaDoor
namespace Go.Proofs.YtnejiclghnigiaaDoor
open Go.RowKit Go.Wag
set_option linter.unusedVariables false
set_option maxRecDepth 20000
set_option linter.unusedSimpArgs false

def aw5 : Rp := ⟨1, 5, List.replicate 40 0⟩
def aw6 : Rp := ⟨1, 6, List.replicate 40 0⟩
def awZ0 : List Zp := [zero4, zero4]
def awZ1 : List Zp := [⟨1, 0, 0, recB aw5⟩, zero4]
def awZ2 : List Zp := [⟨1, 0, 0, recB aw5⟩, ⟨1, 0, 0, recB aw6⟩]
theorem aw5_ok : aw5.ok = true := by decide
theorem aw6_ok : aw6.ok = true := by decide
theorem aw5_len : (recB aw5).length = 60 := by rw [recB_length]; rfl
theorem aw6_len : (recB aw6).length = 60 := by rw [recB_length]; rfl
theorem awD0 : devF 100 awZ0 = true := by decide
theorem awD2 : devF 100 awZ2 = true := by simp [devF, awZ2, mayF, zchk, chkF, aw5_len, aw6_len]
theorem awAp : apS 100 ⟨-1, 0, false, awZ0⟩ [aw5, aw6] = (⟨-1, 2, false, awZ2⟩, [(0, 0), (1, 0)], 0) := by
  have h5 : pnEr 100 awZ0 aw5 = 0 := by simp [pnEr, aw5_ok, aw5_len, plEr, awZ0, awD0, devF, mayF, zchk, chkF, zero4, idxF, List.findIdx?_cons, roomy, isO, isE]
  have c5 : pnCs 100 awZ0 aw5 = [⟨1, 0, recB aw5⟩] := by simp [pnCs, pnZn, plCs, plZn, aw5_ok, aw5_len, plEr, awZ0, awD0, devF, mayF, zchk, chkF, zero4, idxF, List.findIdx?_cons, roomy, isO, isE, openF]
  have z5 : pnZn 100 awZ0 aw5 = 0 := by simp [pnZn, plZn, aw5_ok, aw5_len, plEr, awZ0, awD0, devF, mayF, zchk, chkF, zero4, idxF, List.findIdx?_cons, roomy, isO, isE, openF]
  have d5 : doAll 100 ⟨-1, 0, false, awZ0⟩ [⟨1, 0, recB aw5⟩] = (⟨-1, 1, false, awZ1⟩, 0) := by
    simp [doAll, doE, doS, ruEr, ruLf, ruDn, ruDw, ruZs, goF, upF, cmdEr, cmdZs, chgEr, chgZs, apE, apH, apNo, awZ0, awZ1, devF, mayF, zchk, chkF, zero4, openF, aw5_len, appErrF, appSt, appDa, roomF, fullF, wrap64]
  have h6 : pnEr 100 awZ1 aw6 = 0 := by simp [pnEr, aw6_ok, aw5_len, aw6_len, plEr, awZ1, devF, mayF, zchk, chkF, zero4, idxF, List.findIdx?_cons, roomy, roomF, isO, isE]
  have c6 : pnCs 100 awZ1 aw6 = [⟨1, 1, recB aw6⟩] := by simp [pnCs, pnZn, plCs, plZn, aw6_ok, aw5_len, aw6_len, plEr, awZ1, devF, mayF, zchk, chkF, zero4, idxF, List.findIdx?_cons, roomy, roomF, isO, isE, openF]
  have z6 : pnZn 100 awZ1 aw6 = 1 := by simp [pnZn, plZn, aw6_ok, aw5_len, aw6_len, plEr, awZ1, devF, mayF, zchk, chkF, zero4, idxF, List.findIdx?_cons, roomy, roomF, isO, isE, openF]
  have d6 : doAll 100 ⟨-1, 1, false, awZ1⟩ [⟨1, 1, recB aw6⟩] = (⟨-1, 2, false, awZ2⟩, 0) := by
    simp [doAll, doE, doS, ruEr, ruLf, ruDn, ruDw, ruZs, goF, upF, cmdEr, cmdZs, chgEr, chgZs, apE, apH, apNo, awZ1, awZ2, devF, mayF, zchk, chkF, zero4, openF, aw5_len, aw6_len, appErrF, appSt, appDa, roomF, fullF, wrap64]
  simp only [apS, h5, c5, z5, d5, if_true, h6, c6, z6, d6]
  simp [zlen, awZ0, awZ1, zero4]
theorem awFull : apS 100 ⟨-1, 2, false, awZ2⟩ [aw5] = (⟨-1, 2, false, awZ2⟩, [], 60) := by
  have h5 : pnEr 100 awZ2 aw5 = 60 := by simp [pnEr, aw5_ok, aw5_len, aw6_len, plEr, awZ2, devF, mayF, zchk, chkF, zero4, idxF, List.findIdx?_cons, roomy, roomF, isO, isE]
  simp [apS, h5]
theorem aw_sc (r : Rp) (h : r.ok = true) : scF (recB r) 0 = [(r, 0)] := by
  have := sc_recs (rs := [r]) (fun x hx => by
    rcases List.mem_cons.1 hx with rfl | hx
    · exact h
    · cases hx)
  have e : allB [r] = recB r := by simp [allB]
  rw [e] at this
  rw [this]
  rfl
theorem awRaw : rawG 0 awZ2 = [⟨aw5, 0, 0⟩, ⟨aw6, 1, 0⟩] := by
  simp [rawG, awZ2, zoneF, aw_sc aw5 aw5_ok, aw_sc aw6 aw6_ok]
theorem awAll : allF awZ2 = [⟨aw5, 0, 0⟩, ⟨aw6, 1, 0⟩] := by
  rw [allF, awRaw]
  exact sortK_eq seqK (List.Perm.refl _) (by simp [aw5, aw6, seqK])
theorem awRun5 : runF [⟨aw5, 0, 0⟩, ⟨aw6, 1, 0⟩] 5 = [aw5, aw6] := by
  simp [runF, runN, idxS, List.findIdx?_cons, aw5, aw6]
theorem awRun4 : runF [⟨aw5, 0, 0⟩, ⟨aw6, 1, 0⟩] 4 = [] := by
  simp [runF, runN, idxS, List.findIdx?_cons, aw5, aw6]
theorem awPl40 : plEr 100 awZ2 40 = 0 ∧ plZn 100 awZ2 40 = 0 ∧ plCs 100 awZ2 40 = [] := by
  simp [plEr, plZn, plCs, aw5_len, aw6_len, awZ2, devF, mayF, zchk, chkF, zero4, idxF, List.findIdx?_cons, roomy, roomF, isO, isE]
theorem awPl101 : plEr 100 awZ2 101 = 1 ∧ plZn 100 awZ2 101 = 0 ∧ plCs 100 awZ2 101 = [] := by
  simp [plEr, plZn, plCs]
theorem awE0 : emptyF awZ0 = 2 := by decide
theorem awE2 : emptyF awZ2 = 0 := by simp [emptyF, awZ2, isE]
end Go.Proofs.YtnejiclghnigiaaDoor
namespace Go.Proofs.YtnejiclghnigiaaDoor
open Go.RowKit Go.Wag
set_option linter.unusedVariables false
set_option maxRecDepth 20000
set_option linter.unusedSimpArgs false

theorem rs_rec1 {w : World} {g : Nat} {t : TypeId} {r : Rp} {A : Option Addr} {n c : Nat} (hn : r.l.length = n) (h : Blk w g #[.int .i64 r.k, .int .i64 r.s, .slice A n c] t) (hs : Sl w A n c (r.l.map v8)) : Rs recE (fun _ => True) w (some ⟨g, 0, none⟩) 1 1 [r] := by
  subst hn
  refine ⟨rfl, Nat.le_refl _, by omega, fun _ => ⟨g, 0, rfl, trivial, h.lt, fun i x hi => ?_⟩⟩
  obtain rfl : i = 0 := by
    have := (List.getElem?_eq_some_iff.1 hi).1
    simp at this
    omega
  cases hi
  refine ⟨_, ⟨A, c, rfl, hs, fun _ _ _ => trivial⟩, fun j v hj => ?_⟩
  rw [h.cell]
  simpa using hj
theorem rs_rec2 {w : World} {g : Nat} {t : TypeId} {r r' : Rp} {A A' : Option Addr} {n c n' c' : Nat} (hn : r.l.length = n) (hn' : r'.l.length = n') (h : Blk w g #[.int .i64 r.k, .int .i64 r.s, .slice A n c, .int .i64 r'.k, .int .i64 r'.s, .slice A' n' c'] t) (hs : Sl w A n c (r.l.map v8)) (hs' : Sl w A' n' c' (r'.l.map v8)) : Rs recE (fun _ => True) w (some ⟨g, 0, none⟩) 2 2 [r, r'] := by
  subst hn hn'
  refine ⟨rfl, Nat.le_refl _, by omega, fun _ => ⟨g, 0, rfl, trivial, h.lt, fun i x hi => ?_⟩⟩
  have hi2 := (List.getElem?_eq_some_iff.1 hi).1
  simp at hi2
  rcases (show i = 0 ∨ i = 1 by omega) with rfl | rfl
  · cases hi
    refine ⟨_, ⟨A, c, rfl, hs, fun _ _ _ => trivial⟩, fun j v hj => ?_⟩
    have hj2 := (List.getElem?_eq_some_iff.1 hj).1
    simp at hj2
    rw [h.cell]
    rcases (show j = 0 ∨ j = 1 ∨ j = 2 by omega) with rfl | rfl | rfl <;> exact hj
  · cases hi
    refine ⟨_, ⟨A', c', rfl, hs', fun _ _ _ => trivial⟩, fun j v hj => ?_⟩
    have hj2 := (List.getElem?_eq_some_iff.1 hj).1
    simp at hj2
    rw [h.cell]
    rcases (show j = 0 ∨ j = 1 ∨ j = 2 by omega) with rfl | rfl | rfl <;> exact hj
theorem zeros_sl (W : World) (m : Nat) (hm : m ≤ 1000000) : Sl (W.alloc (.cells (mk0 (.int .u8 0) m) 5)) (some ⟨W.heap.size, 0, none⟩) m m ((List.replicate m (0 : UInt8)).map v8) := by
  have h := (Own.made W (.int .u8 0) 5 m m (Nat.le_refl _) (by omega)).to_sl
  rw [List.map_replicate]
  exact h
/-- A place that is read. -/
theorem Rs.cp_at {F : Nat → Prop} {w : World} {A : Option Addr} {n c : Nat} {pl : List (Int × Int)} (h : Rs cpE F w A n c pl) {i : Nat} (hi : i < n) : ∃ g o p, A = some ⟨g, o, none⟩ ∧ F g ∧ g < w.heap.size ∧ pl[i]? = some p ∧ w.cell? ⟨g, o + i, none⟩ = some (cpx p.1 p.2) := by
  obtain ⟨g, o, p, vs, e, hF, hg, hp, hv, hc⟩ := h.at_ hi
  have hv0 : vs = [cpx p.1 p.2] := hv
  subst hv0
  refine ⟨g, o, p, e, hF, hg, hp, ?_⟩
  have := hc 0 _ rfl
  simpa [cellE] using this
theorem cpx00 : cpx 0 0 = .complex .f64 0 0 := by kernel_rfl
theorem cpx10 : cpx 1 0 = .complex .f64 4607182418800017408 0 := by kernel_rfl

set_option maxRecDepth 100000 in
set_option maxHeartbeats 4000000 in
theorem awake6_any (w : World) (hT : Tab w) : Calls Tryd.prog 9 #[] w (AwakePost w) := by
  have bb := Below.refl w.heap.size w
  obtain ⟨i0, hi, hz0, hz1, hz2⟩ := info_parts i5
  have hmk := fun W => run_mk (P := Tryd.prog) 24 5 i0 (.int .u8 0) 1 Tryd.underlying24 hi hz0 hz1 hz2 rfl .i64 .i64 40 40 40 40 rfl rfl (by omega) (by omega) (by omega) W
  go_enter Tryd.func9, Tryd.ntmps9
  go_wp2_with fail
  have hC := dNew_at 2 100 awZ0 2 w (by decide) rfl rfl (by decide)
  refine hC.mono ?_
  clear hC
  rintro e w1 ⟨Ad, rfl, Zd, b1⟩
  replace hT := hT.below b1
  replace bb := bb.trans (b1.mono bb.size)
  replace hT := hT.alloc (.cells #[.int .i64 100, .slice Ad 2 2, .int .i64 (-1), .bool false, .int .i64 0] 36)
  replace Zd := Zd.alloc (.cells #[.int .i64 100, .slice Ad 2 2, .int .i64 (-1), .bool false, .int .i64 0] 36)
  replace bb := bb.alloc bb.size (.cells #[.int .i64 100, .slice Ad 2 2, .int .i64 (-1), .bool false, .int .i64 0] 36)
  have Bd := Blk.new w1 #[.int .i64 100, .slice Ad 2 2, .int .i64 (-1), .bool false, .int .i64 0] 36
  replace hT := hT.alloc (.cells (mk0 (.int .u8 0) 40) 5)
  replace Zd := Zd.alloc (.cells (mk0 (.int .u8 0) 40) 5)
  replace Bd := Bd.alloc (.cells (mk0 (.int .u8 0) 40) 5)
  replace bb := bb.alloc bb.size (.cells (mk0 (.int .u8 0) 40) 5)
  have sl := (zeros_sl (w1.alloc (.cells #[.int .i64 100, .slice Ad 2 2, .int .i64 (-1), .bool false, .int .i64 0] 36)) 40 (by omega))
  simp only [World.size_alloc] at sl
  replace hT := hT.alloc (.cells #[.int .i64 1, .int .i64 5, .slice (some ⟨w1.heap.size + 1, 0, none⟩) 40 40] 26)
  replace Zd := Zd.alloc (.cells #[.int .i64 1, .int .i64 5, .slice (some ⟨w1.heap.size + 1, 0, none⟩) 40 40] 26)
  replace Bd := Bd.alloc (.cells #[.int .i64 1, .int .i64 5, .slice (some ⟨w1.heap.size + 1, 0, none⟩) 40 40] 26)
  replace sl := sl.alloc (.cells #[.int .i64 1, .int .i64 5, .slice (some ⟨w1.heap.size + 1, 0, none⟩) 40 40] 26)
  replace bb := bb.alloc bb.size (.cells #[.int .i64 1, .int .i64 5, .slice (some ⟨w1.heap.size + 1, 0, none⟩) 40 40] 26)
  have Br := Blk.new ((w1.alloc (.cells #[.int .i64 100, .slice Ad 2 2, .int .i64 (-1), .bool false, .int .i64 0] 36)).alloc (.cells (mk0 (.int .u8 0) 40) 5)) #[.int .i64 1, .int .i64 5, .slice (some ⟨w1.heap.size + 1, 0, none⟩) 40 40] 26
  simp only [World.size_alloc] at Br
  replace hT := hT.alloc (.cells #[.int .i64 1, .int .i64 6, .slice (some ⟨w1.heap.size + 1, 0, none⟩) 40 40] 26)
  replace Zd := Zd.alloc (.cells #[.int .i64 1, .int .i64 6, .slice (some ⟨w1.heap.size + 1, 0, none⟩) 40 40] 26)
  replace Bd := Bd.alloc (.cells #[.int .i64 1, .int .i64 6, .slice (some ⟨w1.heap.size + 1, 0, none⟩) 40 40] 26)
  replace sl := sl.alloc (.cells #[.int .i64 1, .int .i64 6, .slice (some ⟨w1.heap.size + 1, 0, none⟩) 40 40] 26)
  replace Br := Br.alloc (.cells #[.int .i64 1, .int .i64 6, .slice (some ⟨w1.heap.size + 1, 0, none⟩) 40 40] 26)
  replace bb := bb.alloc bb.size (.cells #[.int .i64 1, .int .i64 6, .slice (some ⟨w1.heap.size + 1, 0, none⟩) 40 40] 26)
  have Bs := Blk.new (((w1.alloc (.cells #[.int .i64 100, .slice Ad 2 2, .int .i64 (-1), .bool false, .int .i64 0] 36)).alloc (.cells (mk0 (.int .u8 0) 40) 5)).alloc (.cells #[.int .i64 1, .int .i64 5, .slice (some ⟨w1.heap.size + 1, 0, none⟩) 40 40] 26)) #[.int .i64 1, .int .i64 6, .slice (some ⟨w1.heap.size + 1, 0, none⟩) 40 40] 26
  simp only [World.size_alloc] at Bs
  replace hT := hT.alloc (.cells #[.int .i64 1, .int .i64 5, .slice (some ⟨w1.heap.size + 1, 0, none⟩) 40 40, .int .i64 1, .int .i64 6, .slice (some ⟨w1.heap.size + 1, 0, none⟩) 40 40] 26)
  replace Zd := Zd.alloc (.cells #[.int .i64 1, .int .i64 5, .slice (some ⟨w1.heap.size + 1, 0, none⟩) 40 40, .int .i64 1, .int .i64 6, .slice (some ⟨w1.heap.size + 1, 0, none⟩) 40 40] 26)
  replace Bd := Bd.alloc (.cells #[.int .i64 1, .int .i64 5, .slice (some ⟨w1.heap.size + 1, 0, none⟩) 40 40, .int .i64 1, .int .i64 6, .slice (some ⟨w1.heap.size + 1, 0, none⟩) 40 40] 26)
  replace sl := sl.alloc (.cells #[.int .i64 1, .int .i64 5, .slice (some ⟨w1.heap.size + 1, 0, none⟩) 40 40, .int .i64 1, .int .i64 6, .slice (some ⟨w1.heap.size + 1, 0, none⟩) 40 40] 26)
  replace Br := Br.alloc (.cells #[.int .i64 1, .int .i64 5, .slice (some ⟨w1.heap.size + 1, 0, none⟩) 40 40, .int .i64 1, .int .i64 6, .slice (some ⟨w1.heap.size + 1, 0, none⟩) 40 40] 26)
  replace Bs := Bs.alloc (.cells #[.int .i64 1, .int .i64 5, .slice (some ⟨w1.heap.size + 1, 0, none⟩) 40 40, .int .i64 1, .int .i64 6, .slice (some ⟨w1.heap.size + 1, 0, none⟩) 40 40] 26)
  replace bb := bb.alloc bb.size (.cells #[.int .i64 1, .int .i64 5, .slice (some ⟨w1.heap.size + 1, 0, none⟩) 40 40, .int .i64 1, .int .i64 6, .slice (some ⟨w1.heap.size + 1, 0, none⟩) 40 40] 26)
  have Bl := Blk.new ((((w1.alloc (.cells #[.int .i64 100, .slice Ad 2 2, .int .i64 (-1), .bool false, .int .i64 0] 36)).alloc (.cells (mk0 (.int .u8 0) 40) 5)).alloc (.cells #[.int .i64 1, .int .i64 5, .slice (some ⟨w1.heap.size + 1, 0, none⟩) 40 40] 26)).alloc (.cells #[.int .i64 1, .int .i64 6, .slice (some ⟨w1.heap.size + 1, 0, none⟩) 40 40] 26)) #[.int .i64 1, .int .i64 5, .slice (some ⟨w1.heap.size + 1, 0, none⟩) 40 40, .int .i64 1, .int .i64 6, .slice (some ⟨w1.heap.size + 1, 0, none⟩) 40 40] 26
  simp only [World.size_alloc] at Bl
  go_wp2_with fail
  generalize (((((w1.alloc (.cells #[.int .i64 100, .slice Ad 2 2, .int .i64 (-1), .bool false, .int .i64 0] 36)).alloc (.cells (mk0 (.int .u8 0) 40) 5)).alloc (.cells #[.int .i64 1, .int .i64 5, .slice (some ⟨w1.heap.size + 1, 0, none⟩) 40 40] 26)).alloc (.cells #[.int .i64 1, .int .i64 6, .slice (some ⟨w1.heap.size + 1, 0, none⟩) 40 40] 26)).alloc (.cells #[.int .i64 1, .int .i64 5, .slice (some ⟨w1.heap.size + 1, 0, none⟩) 40 40, .int .i64 1, .int .i64 6, .slice (some ⟨w1.heap.size + 1, 0, none⟩) 40 40] 26)) = W1 at *
  have hC0 := rs_rec2 (r := aw5) (r' := aw6) rfl rfl Bl sl sl
  have hC := gAppend_any 100 ⟨-1, 0, false, awZ0⟩ Ad 2 2 _ 2 2 [aw5, aw6] W1 hT Zd hC0 (by omega) ⟨awD0, by decide⟩
  refine hC.mono ?_
  clear hC
  rintro e w2 hq
  rw [awAp] at hq
  obtain ⟨Ax, Ap, kp, cp, hkp, rfl, Zx, Rp2, b2⟩ := hq
  simp only [List.length_cons, List.length_nil, Nat.zero_add, Nat.reduceAdd] at hkp
  subst hkp
  clear hC0 Bl
  replace hT := hT.below b2
  replace Zd := Zd.below b2
  replace Bd := Bd.under b2
  replace sl := sl.below b2
  replace Br := Br.under b2
  replace Bs := Bs.under b2
  replace bb := bb.trans (b2.mono bb.size)
  obtain ⟨Brq0, Brq1, Brq2, Brr0, Brr1, Brr2⟩ := Br.three
  have Brl := Br.lt
  replace hT := hT.alloc (.cells #[.int .i64 100, .slice Ax 2 2, .int .i64 (-1), .bool false, .int .i64 2] 36)
  replace Zd := Zd.alloc (.cells #[.int .i64 100, .slice Ax 2 2, .int .i64 (-1), .bool false, .int .i64 2] 36)
  replace Bd := Bd.alloc (.cells #[.int .i64 100, .slice Ax 2 2, .int .i64 (-1), .bool false, .int .i64 2] 36)
  replace sl := sl.alloc (.cells #[.int .i64 100, .slice Ax 2 2, .int .i64 (-1), .bool false, .int .i64 2] 36)
  replace Br := Br.alloc (.cells #[.int .i64 100, .slice Ax 2 2, .int .i64 (-1), .bool false, .int .i64 2] 36)
  replace Bs := Bs.alloc (.cells #[.int .i64 100, .slice Ax 2 2, .int .i64 (-1), .bool false, .int .i64 2] 36)
  replace Zx := Zx.alloc (.cells #[.int .i64 100, .slice Ax 2 2, .int .i64 (-1), .bool false, .int .i64 2] 36)
  replace Rp2 := Rp2.alloc (.cells #[.int .i64 100, .slice Ax 2 2, .int .i64 (-1), .bool false, .int .i64 2] 36)
  replace bb := bb.alloc bb.size (.cells #[.int .i64 100, .slice Ax 2 2, .int .i64 (-1), .bool false, .int .i64 2] 36)
  have Bx := Blk.new w2 #[.int .i64 100, .slice Ax 2 2, .int .i64 (-1), .bool false, .int .i64 2] 36
  replace hT := hT.alloc (.cells #[.int .i64 1, .int .i64 5, .slice (some ⟨w1.heap.size + 1, 0, none⟩) 40 40] 26)
  replace Zd := Zd.alloc (.cells #[.int .i64 1, .int .i64 5, .slice (some ⟨w1.heap.size + 1, 0, none⟩) 40 40] 26)
  replace Bd := Bd.alloc (.cells #[.int .i64 1, .int .i64 5, .slice (some ⟨w1.heap.size + 1, 0, none⟩) 40 40] 26)
  replace sl := sl.alloc (.cells #[.int .i64 1, .int .i64 5, .slice (some ⟨w1.heap.size + 1, 0, none⟩) 40 40] 26)
  replace Br := Br.alloc (.cells #[.int .i64 1, .int .i64 5, .slice (some ⟨w1.heap.size + 1, 0, none⟩) 40 40] 26)
  replace Bs := Bs.alloc (.cells #[.int .i64 1, .int .i64 5, .slice (some ⟨w1.heap.size + 1, 0, none⟩) 40 40] 26)
  replace Zx := Zx.alloc (.cells #[.int .i64 1, .int .i64 5, .slice (some ⟨w1.heap.size + 1, 0, none⟩) 40 40] 26)
  replace Rp2 := Rp2.alloc (.cells #[.int .i64 1, .int .i64 5, .slice (some ⟨w1.heap.size + 1, 0, none⟩) 40 40] 26)
  replace Bx := Bx.alloc (.cells #[.int .i64 1, .int .i64 5, .slice (some ⟨w1.heap.size + 1, 0, none⟩) 40 40] 26)
  replace bb := bb.alloc bb.size (.cells #[.int .i64 1, .int .i64 5, .slice (some ⟨w1.heap.size + 1, 0, none⟩) 40 40] 26)
  have Bm := Blk.new (w2.alloc (.cells #[.int .i64 100, .slice Ax 2 2, .int .i64 (-1), .bool false, .int .i64 2] 36)) #[.int .i64 1, .int .i64 5, .slice (some ⟨w1.heap.size + 1, 0, none⟩) 40 40] 26
  simp only [World.size_alloc] at Bm
  go_wp2_with fail
  clear Brq0 Brq1 Brq2 Brr0 Brr1 Brr2
  generalize ((w2.alloc (.cells #[.int .i64 100, .slice Ax 2 2, .int .i64 (-1), .bool false, .int .i64 2] 36)).alloc (.cells #[.int .i64 1, .int .i64 5, .slice (some ⟨w1.heap.size + 1, 0, none⟩) 40 40] 26)) = W2 at *
  have hC0 := rs_rec1 (r := aw5) rfl Bm sl
  have hC := gAppend_any 100 ⟨-1, 2, false, awZ2⟩ Ax 2 2 _ 1 1 [aw5] W2 hT Zx hC0 (by omega) ⟨awD2, by decide⟩
  refine hC.mono ?_
  clear hC
  rintro e w3 hq
  rw [awFull] at hq
  obtain ⟨Ay, Aq, kq, cq, hkq, rfl, Zy, Rq2, b3⟩ := hq
  simp only [List.length_nil] at hkq
  subst hkq
  clear hC0 Bm Zy Rq2
  replace hT := hT.below b3
  replace Zd := Zd.below b3
  replace Bd := Bd.under b3
  replace sl := sl.below b3
  replace Br := Br.under b3
  replace Bs := Bs.under b3
  replace Zx := Zx.below b3
  replace Rp2 := Rp2.below b3
  replace Bx := Bx.under b3
  replace bb := bb.trans (b3.mono bb.size)
  obtain ⟨Bxq0, Bxq1, Bxq2, Bxq3, Bxq4, Bxr0, Bxr1, Bxr2, Bxr3, Bxr4⟩ := Bx.five
  have Bxl := Bx.lt
  replace hT := hT.alloc (.cells #[.int .i64 100, .slice Ay 2 2, .int .i64 (-1), .bool false, .int .i64 2] 36)
  replace Zd := Zd.alloc (.cells #[.int .i64 100, .slice Ay 2 2, .int .i64 (-1), .bool false, .int .i64 2] 36)
  replace Bd := Bd.alloc (.cells #[.int .i64 100, .slice Ay 2 2, .int .i64 (-1), .bool false, .int .i64 2] 36)
  replace sl := sl.alloc (.cells #[.int .i64 100, .slice Ay 2 2, .int .i64 (-1), .bool false, .int .i64 2] 36)
  replace Br := Br.alloc (.cells #[.int .i64 100, .slice Ay 2 2, .int .i64 (-1), .bool false, .int .i64 2] 36)
  replace Bs := Bs.alloc (.cells #[.int .i64 100, .slice Ay 2 2, .int .i64 (-1), .bool false, .int .i64 2] 36)
  replace Zx := Zx.alloc (.cells #[.int .i64 100, .slice Ay 2 2, .int .i64 (-1), .bool false, .int .i64 2] 36)
  replace Rp2 := Rp2.alloc (.cells #[.int .i64 100, .slice Ay 2 2, .int .i64 (-1), .bool false, .int .i64 2] 36)
  replace Bx := Bx.alloc (.cells #[.int .i64 100, .slice Ay 2 2, .int .i64 (-1), .bool false, .int .i64 2] 36)
  replace bb := bb.alloc bb.size (.cells #[.int .i64 100, .slice Ay 2 2, .int .i64 (-1), .bool false, .int .i64 2] 36)
  go_wp2_with fail
  clear Bxq0 Bxq1 Bxq2 Bxq3 Bxq4 Bxr0 Bxr1 Bxr2 Bxr3 Bxr4
  generalize (w3.alloc (.cells #[.int .i64 100, .slice Ay 2 2, .int .i64 (-1), .bool false, .int .i64 2] 36)) = W3 at *
  have hC := gAll_any 100 (-1) 2 false Ax 2 2 awZ2 _ W3 hT Zx awD2 awAll (by rw [awRaw]; decide)
  refine hC.mono ?_
  clear hC
  rintro e w4 ⟨Al, kl, cl, hkl, rfl, Rl, b4⟩
  replace hT := hT.below b4
  replace Zd := Zd.below b4
  replace Bd := Bd.under b4
  replace sl := sl.below b4
  replace Br := Br.under b4
  replace Bs := Bs.under b4
  replace Zx := Zx.below b4
  replace Rp2 := Rp2.below b4
  replace Bx := Bx.under b4
  replace bb := bb.trans (b4.mono bb.size)
  simp only [List.length_cons, List.length_nil, Nat.zero_add, Nat.reduceAdd] at hkl
  subst hkl
  obtain ⟨Bxq0, Bxq1, Bxq2, Bxq3, Bxq4, Bxr0, Bxr1, Bxr2, Bxr3, Bxr4⟩ := Bx.five
  have Bxl := Bx.lt
  go_wp2_with fail
  clear Bxq0 Bxq1 Bxq2 Bxq3 Bxq4 Bxr0 Bxr1 Bxr2 Bxr3 Bxr4
  have hC := gPlace_any 100 (-1) 2 40 false Ax 2 2 awZ2 w4 Zx
  refine hC.mono ?_
  clear hC
  rintro e w5 hq
  rw [awPl40.1, awPl40.2.1, awPl40.2.2] at hq
  obtain ⟨Ac, cc, rfl, _, b5⟩ := hq
  replace hT := hT.below b5
  replace Zd := Zd.below b5
  replace Bd := Bd.under b5
  replace sl := sl.below b5
  replace Br := Br.under b5
  replace Bs := Bs.under b5
  replace Zx := Zx.below b5
  replace Rp2 := Rp2.below b5
  replace Bx := Bx.under b5
  replace Rl := Rl.below b5
  replace bb := bb.trans (b5.mono bb.size)
  obtain ⟨Bxq0, Bxq1, Bxq2, Bxq3, Bxq4, Bxr0, Bxr1, Bxr2, Bxr3, Bxr4⟩ := Bx.five
  have Bxl := Bx.lt
  go_wp2_with fail
  clear Bxq0 Bxq1 Bxq2 Bxq3 Bxq4 Bxr0 Bxr1 Bxr2 Bxr3 Bxr4
  have hC := gPlace_any 100 (-1) 2 101 false Ax 2 2 awZ2 w5 Zx
  refine hC.mono ?_
  clear hC
  rintro e w6 hq
  rw [awPl101.1, awPl101.2.1, awPl101.2.2] at hq
  obtain ⟨Ae, ce, rfl, _, b6⟩ := hq
  replace hT := hT.below b6
  replace Zd := Zd.below b6
  replace Bd := Bd.under b6
  replace sl := sl.below b6
  replace Br := Br.under b6
  replace Bs := Bs.under b6
  replace Zx := Zx.below b6
  replace Rp2 := Rp2.below b6
  replace Bx := Bx.under b6
  replace Rl := Rl.below b6
  replace bb := bb.trans (b6.mono bb.size)
  obtain ⟨gp, op, p0, rfl, _, _, hp0, cp0⟩ := Rs.cp_at Rp2 (show 0 < 2 by omega)
  obtain ⟨gp', op', p1, e', _, _, hp1, cp1⟩ := Rs.cp_at Rp2 (show 1 < 2 by omega)
  cases e'
  cases hp0
  cases hp1
  simp only [cpx00, cpx10, Nat.add_zero] at cp0 cp1
  obtain ⟨gl, ol, x1, Ai, ci, rfl, _, _, hx1, d0, d1, d2, d3, d4, _⟩ := Rs.fnd_at Rl (show 1 < 2 by omega)
  cases hx1
  have d1' : w6.cell? ⟨gl, ol + 1 * 5 + 1, none⟩ = some (.int .i64 6) := d1
  have d1'' : w6.cell? ⟨gl, ol + 5 + 1, none⟩ = some (.int .i64 6) := d1
  have hcr := Rl.cap
  have hcp := Rp2.cap
  have hbr := Rl.big
  have hbp := Rp2.big
  simp only [List.length_nil]
  clear d0 d1 d2 d3 d4
  go_wp2_with fail
  have hC := gRun_any (some ⟨gl, ol, none⟩) 2 cl _ 5 w6 Rl (by omega) (by omega) (by omega) (by intro x hx; simp only [List.mem_cons, List.not_mem_nil, or_false] at hx; rcases hx with rfl | rfl <;> decide) _ awRun5
  refine hC.mono ?_
  clear hC
  rintro e w7 ⟨Ar, kr, cr, hkr, rfl, _, b7⟩
  replace hT := hT.below b7
  replace Zd := Zd.below b7
  replace Bd := Bd.under b7
  replace sl := sl.below b7
  replace Br := Br.under b7
  replace Bs := Bs.under b7
  replace Zx := Zx.below b7
  replace Rp2 := Rp2.below b7
  replace Bx := Bx.under b7
  replace Rl := Rl.below b7
  replace bb := bb.trans (b7.mono bb.size)
  simp only [List.length_cons, List.length_nil, Nat.zero_add, Nat.reduceAdd] at hkr
  subst hkr
  go_wp2_with fail
  have hC := gRun_any (some ⟨gl, ol, none⟩) 2 cl _ 4 w7 Rl (by omega) (by omega) (by omega) (by intro x hx; simp only [List.mem_cons, List.not_mem_nil, or_false] at hx; rcases hx with rfl | rfl <;> decide) _ awRun4
  refine hC.mono ?_
  clear hC
  rintro e w8 ⟨As, ks, cs, hks, rfl, _, b8⟩
  replace hT := hT.below b8
  replace Zd := Zd.below b8
  replace Bd := Bd.under b8
  replace sl := sl.below b8
  replace Br := Br.under b8
  replace Bs := Bs.under b8
  replace Zx := Zx.below b8
  replace Rp2 := Rp2.below b8
  replace Bx := Bx.under b8
  replace Rl := Rl.below b8
  replace bb := bb.trans (b8.mono bb.size)
  simp only [List.length_nil] at hks
  subst hks
  obtain ⟨Bxq0, Bxq1, Bxq2, Bxq3, Bxq4, Bxr0, Bxr1, Bxr2, Bxr3, Bxr4⟩ := Bx.five
  have Bxl := Bx.lt
  go_wp2_with fail
  clear Bxq0 Bxq1 Bxq2 Bxq3 Bxq4 Bxr0 Bxr1 Bxr2 Bxr3 Bxr4
  have hC := gEmpty_any 100 (-1) 2 false Ax 2 2 awZ2 w8 Zx
  refine hC.mono ?_
  clear hC
  rintro e w9 ⟨rfl, b9⟩
  replace hT := hT.below b9
  replace Zd := Zd.below b9
  replace Bd := Bd.under b9
  replace sl := sl.below b9
  replace Br := Br.under b9
  replace Bs := Bs.under b9
  replace Zx := Zx.below b9
  replace Rp2 := Rp2.below b9
  replace Bx := Bx.under b9
  replace Rl := Rl.below b9
  replace bb := bb.trans (b9.mono bb.size)
  rw [awE2]
  obtain ⟨Bdq0, Bdq1, Bdq2, Bdq3, Bdq4, Bdr0, Bdr1, Bdr2, Bdr3, Bdr4⟩ := Bd.five
  have Bdl := Bd.lt
  go_wp2_with fail
  clear Bdq0 Bdq1 Bdq2 Bdq3 Bdq4 Bdr0 Bdr1 Bdr2 Bdr3 Bdr4
  have hC := gEmpty_any 100 (-1) 0 false Ad 2 2 awZ0 w9 Zd
  refine hC.mono ?_
  clear hC
  rintro e w10 ⟨rfl, b10⟩
  replace hT := hT.below b10
  replace Zd := Zd.below b10
  replace Bd := Bd.under b10
  replace sl := sl.below b10
  replace Br := Br.under b10
  replace Bs := Bs.under b10
  replace Zx := Zx.below b10
  replace Rp2 := Rp2.below b10
  replace Bx := Bx.under b10
  replace Rl := Rl.below b10
  replace bb := bb.trans (b10.mono bb.size)
  rw [awE0]
  go_wp2
  go_ret
  exact ⟨rfl, bb⟩
end Go.Proofs.YtnejiclghnigiaaDoor
namespace Go.Wag
open Go.RowKit Go.ChangeShapes Go.WideShapes Go.Deep
set_option linter.unusedVariables false
/-- At cell o of a type lies a leaf of a form. -/
inductive Leaf (P : Program) : TypeId → Nat → Fm → Prop where
  | here {t : TypeId} {m : Fm} (h : FmOk P m t) (hc : P.cellsOf t = 1) : Leaf P t 0 m
  | field {t : TypeId} {fs : Array Field} {i o j : Nat} {f : Field} {m : Fm} (ht : P.underlying t = some (.struct fs)) (hf : fs[i]? = some f) (h : Leaf P f.type o m) (hj : j = f.offset + o) (hk : o < P.cellsOf f.type) (hfit : f.offset + P.cellsOf f.type ≤ P.cellsOf t) : Leaf P t j m
section
variable {H : Type} {enc : TypeId × Value → H} {P : Program} {w : World} {base : Nat} {held : Bool}
theorem leaf_of_trod {t : TypeId} {o : Nat} {m : Fm} (hL : Leaf P t o m) : ∀ {n : Nat} {cs : List Value} {y : DataW H × List MemPlace}, cs.length = P.cellsOf t → DataW.trod enc P w base (fun _ => true) held n t cs = some y → ∃ v, cs[o]? = some v ∧ FdOk m w v := by
  induction hL with
  | here h hc =>
    intro n cs y hl ht
    rw [hc] at hl
    match cs, hl with
    | [v], _ => exact ⟨v, rfl, fdOk_of_trod h ht⟩
  | field ht hf h hj hk hfit ih =>
    intro n cs y hl htr
    obtain ⟨ys, k, _, _, _, hyl, hfd⟩ := DataW.trod_struct ht htr
    have h1 := hfd _ _ hf
    have his := (Array.getElem?_eq_some_iff.1 hf).1
    rw [List.getElem?_eq_getElem (by omega)] at h1
    obtain ⟨v, hv, hok⟩ := ih (by rw [List.length_take, List.length_drop]; omega) h1
    refine ⟨v, ?_, hok⟩
    rw [List.getElem?_take, if_pos hk, List.getElem?_drop] at hv
    rw [hj]
    exact hv
theorem isSts_of_leaves {t e : TypeId} {ms : List Fm} {a : Option Addr} {len cap : Nat} {d : DataW H} {ps : List MemPlace} (ht : P.underlying t = some (.slice e)) (hC : P.cellsOf e = ms.length)
    (hF : ∀ j m, ms[j]? = some m → Leaf P e j m) (h : DataW.Trod enc P w base (fun _ => true) held t (.slice a len cap) d ps) : IsSts ms w a len cap := by
  obtain ⟨fuel, hf⟩ := h
  rcases open_slice ht hf with ⟨hcs, _⟩ | ⟨ad, l, c, m, n, D, Pl, hcs, _, hlc, hcm, hm, _, hi⟩
  · obtain ⟨rfl, rfl, rfl⟩ : a = none ∧ len = 0 ∧ cap = 0 := by simpa [Value.cells] using hcs
    exact .inl ⟨rfl, rfl, rfl⟩
  · obtain ⟨rfl, rfl, rfl⟩ : a = some ad ∧ len = l ∧ cap = c := by simpa [Value.cells] using hcs
    refine .inr ⟨ad, rfl, hlc, hcm, fun i hil j fm hj => ?_⟩
    have hmc : m = cap := by simpa using hm
    obtain ⟨cs, hc, htr⟩ := hi i (by omega)
    obtain ⟨_, hcl, hat⟩ := World.cells?_some hc
    obtain ⟨v, hv, hok⟩ := leaf_of_trod (hF j fm hj) hcl htr
    refine ⟨v, ?_, hok⟩
    have hjs : j < ms.length := (List.getElem?_eq_some_iff.1 hj).1
    rw [← add_add, ← hC, hat j (by omega), hv]
end
end Go.Wag
namespace Go.Proofs.YtnejiclghnigiaaDoor
open Go.RowKit Go.Wag
set_option linter.unusedVariables false
set_option maxRecDepth 20000

/-- Each zone begins with what it had. -/
def PreZ (zs zs' : List Zp) : Prop := ∀ (i : Nat) (z : Zp), zs[i]? = some z → ∃ (z' : Zp) (t : List UInt8), zs'[i]? = some z' ∧ z'.l = z.l ++ t
theorem PreZ.refl (zs : List Zp) : PreZ zs zs := fun i z h => ⟨z, [], h, by simp⟩
theorem PreZ.trans {a b c : List Zp} (h : PreZ a b) (k : PreZ b c) : PreZ a c := fun i z hz => by
  obtain ⟨y, t, hy, e⟩ := h i z hz
  obtain ⟨x, u, hx, e2⟩ := k i y hy
  exact ⟨x, t ++ u, hx, by rw [e2, e, List.append_assoc]⟩
theorem pre_chg {zs : List Zp} {N : Int} {H : Zp → Zp} {E : Zp → Int} (hk : ZKp H E) : PreZ zs (chgZs zs N H E) := fun i z hz => by
  by_cases hN : 0 ≤ N ∧ N < zs.length
  · have hl : N.toNat < zs.length := by omega
    have hzN := List.getElem?_eq_getElem hl
    rw [(chg_yes H E hN hzN).1]
    by_cases hE : E zs[N.toNat] = 0
    · rw [if_pos hE, List.getElem?_set]
      by_cases hi : N.toNat = i
      · subst hi
        rw [if_pos rfl, if_pos hl]
        obtain rfl : zs[N.toNat] = z := Option.some.inj (hzN.symm.trans hz)
        obtain ⟨t, ht⟩ := hk _ hE
        exact ⟨_, t, rfl, ht⟩
      · rw [if_neg hi]
        exact ⟨z, [], hz, by simp⟩
    · rw [if_neg hE]
      exact ⟨z, [], hz, by simp⟩
  · rw [(chg_no H E hN).1]
    exact ⟨z, [], hz, by simp⟩
theorem pre_ru {size : Int} {zs : List Zp} (lf : Int) (dw : Bool) (kd N : Int) (b : List UInt8) (h2 : kd ≠ 2) : PreZ zs (ruZs size lf dw zs kd N b) := by
  unfold ruZs
  split
  · simp only [cmdZs, if_neg h2]
    repeat' split
    · exact pre_chg (zkp_ap _ _ _)
    · exact pre_chg (fun z _ => ⟨[], by simp [fiH]⟩)
    · exact pre_chg (fun z _ => ⟨[], by simp [clH]⟩)
    · exact fun i z hz => ⟨fsZ z, [], by rw [List.getElem?_map, hz]; rfl, by simp [fsZ]⟩
    · exact PreZ.refl _
  · exact PreZ.refl _
theorem pnCs_kind (size : Int) (zs : List Zp) (r : Rp) : ∀ c ∈ pnCs size zs r, c.k ≠ 2 := by
  intro c hc
  rw [pnCs, List.mem_append] at hc
  rcases hc with hc | hc
  · rw [plCs] at hc
    split at hc
    · split at hc
      · simp at hc
      · split at hc
        · simp at hc
        · simp only [List.mem_singleton] at hc
          subst hc
          simp
    · simp at hc
  · simp only [List.mem_singleton] at hc
    subst hc
    simp
theorem doAll_keep (size : Int) : ∀ (cs : List Rp) (d : Dp), (∀ c ∈ cs, c.k ≠ 2) → devF size d.zs = true ∧ d.lf < 9223372036854775808 →
    PreZ d.zs (doAll size d cs).1.zs ∧ (devF size (doAll size d cs).1.zs = true ∧ (doAll size d cs).1.lf < 9223372036854775808) ∧ (doAll size d cs).1.zs.length = d.zs.length
  | [], d, _, h => ⟨PreZ.refl _, h, rfl⟩
  | c :: cs, d, hk, h => by
    have hp : PreZ d.zs (doS size d c).zs := pre_ru _ _ _ _ _ (hk c (List.mem_cons_self ..))
    have ho := doS_ok c h
    have hl : (doS size d c).zs.length = d.zs.length := len_ru _ _ _ _ _ _ _
    rw [doAll]
    split
    · obtain ⟨h1, h2, h3⟩ := doAll_keep size cs (doS size d c) (fun x hx => hk x (List.mem_cons_of_mem _ hx)) ho
      exact ⟨hp.trans h1, h2, h3.trans hl⟩
    · exact ⟨hp, ho, hl⟩
theorem apS_keep (size : Int) : ∀ (rs : List Rp) (d : Dp), devF size d.zs = true ∧ d.lf < 9223372036854775808 →
    PreZ d.zs (apS size d rs).1.zs ∧ devF size (apS size d rs).1.zs = true ∧ (apS size d rs).1.zs.length = d.zs.length ∧ (apS size d rs).2.1.length ≤ rs.length ∧ ((apS size d rs).2.2 = 0 → (apS size d rs).2.1.length = rs.length)
  | [], d, h => ⟨PreZ.refl _, h.1, rfl, Nat.le_refl _, fun _ => rfl⟩
  | r :: rs, d, h => by
    obtain ⟨h1, h2, h3⟩ := doAll_keep size (pnCs size d.zs r) d (pnCs_kind _ _ _) h
    rw [apS]
    split
    · split
      · obtain ⟨k1, k2, k3, k4, k5⟩ := apS_keep size rs _ h2
        exact ⟨h1.trans k1, k2, k3.trans h3, by simp only [List.length_cons]; omega, fun e => by simp only [List.length_cons]; rw [k5 e]⟩
      · rename_i hne
        exact ⟨h1, h2.1, h3, Nat.zero_le _, fun e => absurd e hne⟩
    · rename_i hne
      exact ⟨PreZ.refl _, h.1, rfl, Nat.zero_le _, fun e => absurd e hne⟩

def bodF (rs : List Rp) : Bool := decide (rs.length ≤ 20) && rs.all (fun r => decide (r.l.length ≤ 300))
set_option maxHeartbeats 1000000 in
theorem lbodies_any {F : Nat → Prop} (A : Option Addr) (n c : Nat) (rs : List Rp) (w : World) (h : Rs recE F w A n c rs) :
    Calls Tryd.prog 13 #[.slice A n c] w fun e w' => e = .returned (.bool (bodF rs)) ∧ w = w' := by
  have hlen := h.len
  have hcap := h.cap
  have hbig := h.big
  go_enter Tryd.func13, Tryd.ntmps13
  by_cases h20 : (20 : Int) < (n : Int)
  · have hb : Hid (bodF rs = false) := by
      show bodF rs = false
      simp [bodF]
      omega
    go_wp2
    go_ret
    rw [hb.out]
    exact ⟨rfl, rfl⟩
  · go_wp2_with fail
    go_loopg [3] n (fun g iv wr => ∃ k : Nat, k + g = n ∧ iv = .int .i64 (k : Int) ∧ Aside (∀ j r, j < k → rs[j]? = some r → r.l.length ≤ 300) ∧ w = wr)
    case atStart => exact ⟨0, by omega, rfl, fun j r hj => absurd hj (by omega), rfl⟩
    case round =>
      obtain ⟨k, hk, rfl, hall, rfl⟩ := hrel
      by_cases hlt : (k : Int) < (n : Int)
      · obtain ⟨g, rfl⟩ : ∃ g, gk = g + 1 := ⟨gk - 1, by omega⟩
        obtain ⟨gb, o, r, Ai, ci, rfl, hF, hg, hr, c0, c1, c2, hS, hA⟩ := Rs.rec_at h (show k < n by omega)
        by_cases hb : (300 : Int) < (r.l.length : Int)
        · have hb2 : Hid (bodF rs = false) := by
            show bodF rs = false
            simp only [bodF, Bool.and_eq_false_iff]
            right
            rw [List.all_eq_false]
            exact ⟨r, List.mem_of_getElem? hr, by simp; omega⟩
          clear hr
          go_wp2
          go_ret
          rw [hb2.out]
          exact ⟨rfl, rfl⟩
        · have hk1 : Aside (∀ j r, j < k + 1 → rs[j]? = some r → r.l.length ≤ 300) := fun j x hj hx => by
            by_cases hjk : j = k
            · subst hjk
              cases hr.symm.trans hx
              omega
            · exact hall.out j x (by omega) hx
          clear hr
          go_wp2
          go_roundg g
          case measure => omega
          case rel => exact ⟨k + 1, by omega, by first | rfl | (simp; done), hk1, rfl⟩
      · have hb2 : Hid (bodF rs = true) := by
          show bodF rs = true
          simp only [bodF, Bool.and_eq_true, decide_eq_true_eq, List.all_eq_true]
          refine ⟨by omega, fun r hr => ?_⟩
          obtain ⟨j, hj, rfl⟩ := List.mem_iff_getElem.1 hr
          exact hall.out j _ (by omega) (List.getElem?_eq_getElem hj)
        go_wp2
        go_ret
        rw [hb2.out]
        exact ⟨rfl, rfl⟩
theorem bodF_all {rs : List Rp} (h : bodF rs = true) : rs.length ≤ 20 ∧ ∀ r ∈ rs, r.l.length ≤ 300 := by
  simpa [bodF] using h
end Go.Proofs.YtnejiclghnigiaaDoor
namespace Go.Proofs.YtnejiclghnigiaaDoor
open Go.RowKit Go.Wag
set_option linter.unusedVariables false
set_option maxRecDepth 20000

def sameF (st1 rs1 la1 : Int) (l1 : List UInt8) (st2 rs2 la2 : Int) (l2 : List UInt8) : Bool := decide (st1 = st2 ∧ rs1 = rs2 ∧ l1 = l2 ∧ la1 = la2)

set_option maxHeartbeats 400000 in
theorem zSame_any (st1 rs1 la1 : Int) (A1 : Option Addr) (n1 c1 : Nat) (l1 : List UInt8) (st2 rs2 la2 : Int) (A2 : Option Addr) (n2 c2 : Nat) (l2 : List UInt8) (w : World) (h1 : Sl w A1 n1 c1 (l1.map v8)) (h2 : Sl w A2 n2 c2 (l2.map v8)) :
    Calls Tryd.prog 43 #[.agg #[.int .i64 st1, .int .i64 rs1, .slice A1 n1 c1, .int .i64 la1], .agg #[.int .i64 st2, .int .i64 rs2, .slice A2 n2 c2, .int .i64 la2]] w
      fun e w' => e = .returned (.bool (sameF st1 rs1 la1 l1 st2 rs2 la2 l2)) ∧ Below w.heap.size w w' := by
  by_cases e1 : st1 = st2
  · subst e1
    by_cases e2 : rs1 = rs2
    · subst e2
      have q1 := str_of ((h1.alloc (.cells #[.int .i64 st1, .int .i64 rs1, .slice A1 n1 c1, .int .i64 la1] 56)).alloc (.cells #[.int .i64 st1, .int .i64 rs1, .slice A2 n2 c2, .int .i64 la2] 56))
      have q2 := str_of ((h2.alloc (.cells #[.int .i64 st1, .int .i64 rs1, .slice A1 n1 c1, .int .i64 la1] 56)).alloc (.cells #[.int .i64 st1, .int .i64 rs1, .slice A2 n2 c2, .int .i64 la2] 56))
      go_enter Tryd.func43, Tryd.ntmps43
      go_wp2
      all_goals
        go_ret
        go_tidy
        refine ⟨congrArg (fun b => Ending.returned (.bool b)) (?_ : (_ : Bool) = _), ((Below.refl _ _).alloc (Nat.le_refl _) _).alloc (by simp) _⟩
        first
          | (simp_all [sameF]; done)
          | (simp_all [sameF]; rfl)
    · have e2' : (rs1 == rs2) = false := by simp [e2]
      have q1 := str_of ((h1.alloc (.cells #[.int .i64 st1, .int .i64 rs1, .slice A1 n1 c1, .int .i64 la1] 56)).alloc (.cells #[.int .i64 st1, .int .i64 rs2, .slice A2 n2 c2, .int .i64 la2] 56))
      have q2 := str_of ((h2.alloc (.cells #[.int .i64 st1, .int .i64 rs1, .slice A1 n1 c1, .int .i64 la1] 56)).alloc (.cells #[.int .i64 st1, .int .i64 rs2, .slice A2 n2 c2, .int .i64 la2] 56))
      go_enter Tryd.func43, Tryd.ntmps43
      go_wp2
      go_ret
      refine ⟨congrArg (fun b => Ending.returned (.bool b)) (?_ : (_ : Bool) = _), ((Below.refl _ _).alloc (Nat.le_refl _) _).alloc (by simp) _⟩
      simp [sameF, e2]
  · have e1' : (st1 == st2) = false := by simp [e1]
    have q1 := str_of ((h1.alloc (.cells #[.int .i64 st1, .int .i64 rs1, .slice A1 n1 c1, .int .i64 la1] 56)).alloc (.cells #[.int .i64 st2, .int .i64 rs2, .slice A2 n2 c2, .int .i64 la2] 56))
    have q2 := str_of ((h2.alloc (.cells #[.int .i64 st1, .int .i64 rs1, .slice A1 n1 c1, .int .i64 la1] 56)).alloc (.cells #[.int .i64 st2, .int .i64 rs2, .slice A2 n2 c2, .int .i64 la2] 56))
    go_enter Tryd.func43, Tryd.ntmps43
    go_wp2
    go_ret
    refine ⟨congrArg (fun b => Ending.returned (.bool b)) (?_ : (_ : Bool) = _), ((Below.refl _ _).alloc (Nat.le_refl _) _).alloc (by simp) _⟩
    simp [sameF, e1]

/-- A zone in memory of its own, of m bytes, with an error beside it, or alone. -/
def ZE (w : World) (st rs : Int) (l : List UInt8) (la er : Int) (m : Nat) (e : Ending) (w' : World) : Prop :=
  ∃ A c, e = .returned (.tuple #[.agg #[.int .i64 st, .int .i64 rs, .slice A m c, .int .i64 la], .int .i64 er]) ∧ Nw 5 w w' A m c (l.map v8) ∧ Below w.heap.size w w'
def ZN (w : World) (st rs : Int) (l : List UInt8) (la : Int) (m : Nat) (e : Ending) (w' : World) : Prop :=
  ∃ A c, e = .returned (.agg #[.int .i64 st, .int .i64 rs, .slice A m c, .int .i64 la]) ∧ Nw 5 w w' A m c (l.map v8) ∧ Below w.heap.size w w'
theorem ZoneErr.at_ {w : World} {st rs la er : Int} {l : List UInt8} {m : Nat} (hm : l.length = m) (e : Ending) (w' : World) (h : ZoneErr w st rs l la er e w') : ZE w st rs l la er m e w' := by
  obtain ⟨A, n, c, rfl, hN, hb⟩ := h
  obtain rfl : n = m := by have := hN.sl.len8; omega
  exact ⟨A, c, rfl, hN, hb⟩
theorem ZoneNew.at_ {w : World} {st rs la : Int} {l : List UInt8} {m : Nat} (hm : l.length = m) (e : Ending) (w' : World) (h : ZoneNew w st rs l la e w') : ZN w st rs l la m e w' := by
  obtain ⟨A, n, c, rfl, hN, hb⟩ := h
  obtain rfl : n = m := by have := hN.sl.len8; omega
  exact ⟨A, c, rfl, hN, hb⟩

theorem zAppend_at (st rs la size : Int) (Ab : Option Addr) (nb cb : Nat) (b : List UInt8) (A : Option Addr) (n c : Nat) (l : List UInt8) (st' er' : Int) (l' : List UInt8) (m : Nat) (w : World) (h : Sl w A n c (l.map v8)) (hb : Sl w Ab nb cb (b.map v8)) (hnb : n + nb ≤ 10000000000000)
    (e1 : appSt st rs n la size nb = st') (e2 : appDa st rs n la size nb l b = l') (e3 : appErrF st rs n la size nb = er') (e4 : l'.length = m) :
    Calls Tryd.prog 84 #[.agg #[.int .i64 st, .int .i64 rs, .slice A n c, .int .i64 la], .int .i64 size, .slice Ab nb cb] w (ZE w st' rs l' la er' m) := by
  subst e1 e2 e3
  exact (zAppend_any st rs la size Ab nb cb b A n c l w h hb (by omega) hnb).mono (ZoneErr.at_ e4)
theorem zReset_at (st rs la : Int) (A : Option Addr) (n c : Nat) (l : List UInt8) (st' rs' la' er' : Int) (l' : List UInt8) (m : Nat) (w : World) (h : Sl w A n c (l.map v8)) (hn : n ≤ 10000000000000)
    (e1 : resSt st rs = st') (e0 : resRs st rs = rs') (e2 : resDa st rs l = l') (e5 : resLa st rs la = la') (e3 : resEr st rs = er') (e4 : l'.length = m) :
    Calls Tryd.prog 85 #[.agg #[.int .i64 st, .int .i64 rs, .slice A n c, .int .i64 la]] w (ZE w st' rs' l' la' er' m) := by
  subst e1 e2 e3 e0 e5
  exact (zReset_any st rs la A n c l w h hn).mono (ZoneErr.at_ e4)
theorem zFinish_at (st rs la : Int) (A : Option Addr) (n c : Nat) (l : List UInt8) (st' er' : Int) (w : World) (h : Sl w A n c (l.map v8)) (hn : n ≤ 10000000000000) (e1 : finSt st = st') (e3 : finEr st = er') :
    Calls Tryd.prog 86 #[.agg #[.int .i64 st, .int .i64 rs, .slice A n c, .int .i64 la]] w (ZE w st' rs l la er' n) := by
  subst e1 e3
  exact (zFinish_any st rs la A n c l w h hn).mono (ZoneErr.at_ h.len8)
theorem zClose_at (st rs la : Int) (A : Option Addr) (n c : Nat) (l : List UInt8) (st' er' : Int) (w : World) (h : Sl w A n c (l.map v8)) (hn : n ≤ 10000000000000) (e1 : cloSt st = st') (e3 : cloEr st = er') :
    Calls Tryd.prog 87 #[.agg #[.int .i64 st, .int .i64 rs, .slice A n c, .int .i64 la]] w (ZE w st' rs l la er' n) := by
  subst e1 e3
  exact (zClose_any st rs la A n c l w h hn).mono (ZoneErr.at_ h.len8)
theorem zFlush_at (st rs la : Int) (A : Option Addr) (n c : Nat) (l : List UInt8) (w : World) (h : Sl w A n c (l.map v8)) (hn : n ≤ 10000000000000) :
    Calls Tryd.prog 89 #[.agg #[.int .i64 st, .int .i64 rs, .slice A n c, .int .i64 la]] w (ZN w st rs l n n) := by
  have hl := h.len8
  exact (zFlush_any st rs la A n c l w h hn).mono (fun e w' hz => by rw [hl] at hz; exact ZoneNew.at_ hl e w' hz)
theorem zCrash_at (st rs la size keep : Int) (A : Option Addr) (n c : Nat) (l : List UInt8) (st' la' : Int) (l' : List UInt8) (m : Nat) (w : World) (h : Sl w A n c (l.map v8)) (hn : n ≤ 10000000000000) (hk0 : -9223372036854775808 ≤ keep) (hk1 : keep < 9223372036854775808)
    (e1 : crSt st rs n la size keep = st') (e2 : crDa st rs n la size keep l = l') (e3 : crLa st rs n la size keep = la') (e4 : l'.length = m) :
    Calls Tryd.prog 49 #[.agg #[.int .i64 st, .int .i64 rs, .slice A n c, .int .i64 la], .int .i64 size, .int .i64 keep] w (ZN w st' rs l' la' m) := by
  subst e1 e2 e3
  exact (zCrash_any st rs la size keep A n c l w h hn hk0 hk1).mono (ZoneNew.at_ e4)
theorem zCheck_at (st rs la size : Int) (A : Option Addr) (n c : Nat) (r : Bool) (w : World) (e1 : chkF st rs n la size = r) :
    Calls Tryd.prog 41 #[.agg #[.int .i64 st, .int .i64 rs, .slice A n c, .int .i64 la], .int .i64 size] w fun e w' => e = .returned (.bool r) ∧ Below w.heap.size w w' := by
  subst e1
  exact zCheck_any st rs la size A n c w
theorem zRoom_at (st rs la size : Int) (A : Option Addr) (n c : Nat) (r : Int) (w : World) (e1 : roomF st rs n la size = r) :
    Calls Tryd.prog 53 #[.agg #[.int .i64 st, .int .i64 rs, .slice A n c, .int .i64 la], .int .i64 size] w fun e w' => e = .returned (.int .i64 r) ∧ Below w.heap.size w w' := by
  subst e1
  exact zRoom_any st rs la size A n c w
theorem zSame_at (st1 rs1 la1 : Int) (A1 : Option Addr) (n1 c1 : Nat) (l1 : List UInt8) (st2 rs2 la2 : Int) (A2 : Option Addr) (n2 c2 : Nat) (l2 : List UInt8) (r : Bool) (w : World) (h1 : Sl w A1 n1 c1 (l1.map v8)) (h2 : Sl w A2 n2 c2 (l2.map v8)) (e1 : sameF st1 rs1 la1 l1 st2 rs2 la2 l2 = r) :
    Calls Tryd.prog 43 #[.agg #[.int .i64 st1, .int .i64 rs1, .slice A1 n1 c1, .int .i64 la1], .agg #[.int .i64 st2, .int .i64 rs2, .slice A2 n2 c2, .int .i64 la2]] w
      fun e w' => e = .returned (.bool r) ∧ Below w.heap.size w w' := by
  subst e1
  exact zSame_any st1 rs1 la1 A1 n1 c1 l1 st2 rs2 la2 A2 n2 c2 l2 w h1 h2
end Go.Proofs.YtnejiclghnigiaaDoor
namespace Go.Proofs.YtnejiclghnigiaaDoor
open Go.RowKit Go.Wag
set_option linter.unusedVariables false
set_option maxRecDepth 20000

theorem slB (w : World) (l : List UInt8) (cells : Array Value) (hc : (l.map v8).toArray = cells) (hl : l.length ≤ 1000) : Sl (w.alloc (.cells cells 5)) (some ⟨w.heap.size, 0, none⟩) l.length l.length (l.map v8) := by
  subst hc
  exact sl8 w l hl

end Go.Proofs.YtnejiclghnigiaaDoor
namespace Go.Proofs.YtnejiclghnigiaaDoor
open Go.RowKit Go.Wag
set_option linter.unusedVariables false
set_option maxRecDepth 20000

theorem appErr_cases {st rs n la size : Int} (m : Int) (hc : chkF st rs n la size = true) (hm : m ≠ 0) : appErrF st rs n la size m = if m ≤ roomF st rs n la size then 0 else 30 := by
  unfold appErrF
  rw [if_pos ⟨hc, hm⟩]
theorem room_val {st rs n la size : Int} (hc : chkF st rs n la size = true) : roomF st rs n la size = if st ≠ 3 then size - n else 0 := by
  unfold roomF
  by_cases h : st ≠ 3
  · rw [if_pos ⟨hc, h⟩, if_pos h]
  · rw [if_neg (fun hh => h hh.2), if_neg h]
theorem chk_app {st rs n la size m : Int} (hc : chkF st rs n la size = true) (hm : 0 < m) (he : appErrF st rs n la size m = 0) : st ≠ 3 ∧ n + m ≤ size ∧ chkF (fullF (n + m) size) rs (n + m) la size = true := by
  rw [appErr_cases m hc (by omega), room_val hc] at he
  have h := chk_all hc
  by_cases h3 : st = 3
  · have e3 : (if st ≠ 3 then size - n else 0) = 0 := by simp [h3]
    rw [e3, if_neg (by omega)] at he
    cases he
  · rw [if_pos (show st ≠ 3 from h3)] at he
    by_cases hf : m ≤ size - n
    · refine ⟨h3, by omega, ?_⟩
      unfold fullF
      simp only [chkF, decide_eq_true_eq]
      split <;> omega
    · rw [if_neg hf] at he
      cases he
/-- Two parts and both at once: they are taken, or both at once are not. -/
theorem app_two {st rs n la size m k : Int} (hc : chkF st rs n la size = true) (hm : 0 < m) (hk : 0 < k) (h1 : appErrF st rs n la size m = 0) (h2 : appErrF (fullF (n + m) size) rs (n + m) la size k = 0) :
    appErrF st rs n la size (m + k) = 0 := by
  obtain ⟨h3, h4, h5⟩ := chk_app hc hm h1
  obtain ⟨h6, h7, -⟩ := chk_app h5 hk h2
  rw [appErr_cases _ hc (by omega), room_val hc, if_pos h3, if_pos (by omega)]
theorem app_not {st rs n la size m k : Int} (hc : chkF st rs n la size = true) (hm : 0 < m) (hk : 0 < k) (h : ¬ (appErrF st rs n la size m = 0 ∧ appErrF (fullF (n + m) size) rs (n + m) la size k = 0)) :
    appErrF st rs n la size (m + k) = 30 := by
  have hb := chk_all hc
  by_cases h1 : appErrF st rs n la size m = 0
  · obtain ⟨h3, h4, h5⟩ := chk_app hc hm h1
    have h2 : ¬ appErrF (fullF (n + m) size) rs (n + m) la size k = 0 := fun e => h ⟨h1, e⟩
    rw [appErr_cases k h5 (by omega), room_val h5] at h2
    rw [appErr_cases _ hc (by omega), room_val hc, if_pos h3, if_neg]
    intro hle
    apply h2
    have : fullF (n + m) size ≠ 3 := by
      unfold fullF
      split <;> omega
    rw [if_pos this, if_pos (by omega)]
  · rw [appErr_cases m hc (by omega), room_val hc] at h1
    rw [appErr_cases _ hc (by omega), room_val hc, if_neg]
    intro hle
    apply h1
    rw [if_pos]
    split at hle <;> split <;> omega

end Go.Proofs.YtnejiclghnigiaaDoor
namespace Go.Proofs.YtnejiclghnigiaaDoor
open Go.RowKit Go.Wag
set_option linter.unusedVariables false
set_option maxRecDepth 20000

theorem iwrap_small {x : Int} (h0 : -9223372036854775808 ≤ x) (h1 : x < 9223372036854775808) : IntKind.i64.wrap x = x := by
  rw [IntKind.wrap_i64]
  omega
theorem rep8 (k : Nat) : List.replicate k (Value.int .u8 0) = (List.replicate k (0 : UInt8)).map v8 := by
  rw [List.map_replicate]
  rfl
theorem room_nat {st rs n la size : Int} (hc : chkF st rs n la size = true) (hn : 0 ≤ n) : ∃ r : Nat, roomF st rs n la size = r ∧ (r : Int) ≤ size ∧ (st = 3 → r = 0) ∧ (st ≠ 3 → (r : Int) = size - n ∧ 0 < r) := by
  have h := chk_all hc
  rw [room_val hc]
  by_cases h3 : st = 3
  · refine ⟨0, by simp [h3], by omega, fun _ => rfl, fun h => absurd h3 h⟩
  · refine ⟨(size - n).toNat, ?_, by omega, fun h => absurd h h3, fun _ => ⟨by omega, by omega⟩⟩
    rw [if_pos h3]
    omega

end Go.Proofs.YtnejiclghnigiaaDoor
namespace Go.Proofs.YtnejiclghnigiaaDoor
open Go.RowKit Go.Wag
set_option linter.unusedVariables false
set_option maxRecDepth 20000

theorem chk_at {st rs n la size : Int} (h : 1 ≤ size ∧ size ≤ 1048576 ∧ 0 ≤ rs ∧ rs ≤ 1073741824 ∧ 0 ≤ st ∧ st ≤ 3 ∧ n ≤ size ∧ 0 ≤ la ∧ la ≤ n ∧ (st = 0 → n = 0) ∧ (st = 1 ∨ st = 2 → 0 < n ∧ n < size)) : chkF st rs n la size = true := by
  simpa only [chkF, decide_eq_true_eq] using h
theorem app_yes {st rs n la size m : Int} (hc : chkF st rs n la size = true) (h3 : st ≠ 3) (hm : m ≠ 0) (hle : m ≤ size - n) : appErrF st rs n la size m = 0 := by
  rw [appErr_cases _ hc hm, room_val hc, if_pos h3, if_pos hle]
theorem crK_nat {n : Nat} {la keep : Int} (h0 : 0 ≤ la) (h1 : la ≤ n) : ∃ k : Nat, crK n la keep = k ∧ k ≤ n := by
  refine ⟨(crK n la keep).toNat, ?_, ?_⟩
  · unfold crK
    omega
  · unfold crK
    omega

end Go.Proofs.YtnejiclghnigiaaDoor
namespace Go.Proofs.YtnejiclghnigiaaDoor
open Go.RowKit Go.Wag
set_option linter.unusedVariables false
set_option maxRecDepth 20000

theorem app_zero {st rs n la size m : Int} (h : appErrF st rs n la size m = 0) : chkF st rs n la size = true ∧ m ≠ 0 := by
  unfold appErrF at h
  by_cases hc : chkF st rs n la size = true ∧ m ≠ 0
  · exact hc
  · rw [if_neg hc] at h
    cases h
theorem app_first {st rs n la size m k : Int} (hm : 0 < m) (hk : 0 ≤ k) (h : appErrF st rs n la size (m + k) = 0) : appErrF st rs n la size m = 0 := by
  obtain ⟨hc, h0⟩ := app_zero h
  rw [appErr_cases _ hc h0] at h
  rw [appErr_cases _ hc (by omega), if_pos]
  by_cases hle : m + k ≤ roomF st rs n la size
  · omega
  · rw [if_neg hle] at h
    cases h
theorem xor255 (x : UInt8) : bits .xor .u8 (x.toNat : Int) 255 = ((x ^^^ 255).toNat : Int) := by
  have h := u8_xor_nat x.toNat 255 x.toNat_lt (by decide)
  rw [UInt8.toNat_xor]
  exact h

end Go.Proofs.YtnejiclghnigiaaDoor
namespace Go.Proofs.YtnejiclghnigiaaDoor
open Go.RowKit Go.Wag
set_option linter.unusedVariables false
set_option maxRecDepth 20000

set_option maxHeartbeats 1000000 in
theorem refCopy3_any (st rs la : Int) (A : Option Addr) (n c : Nat) (l : List UInt8) (w : World) (h : Sl w A n c (l.map v8)) (hn : n ≤ 10000000000000) :
    Calls Tryd.prog 42 #[.agg #[.int .i64 st, .int .i64 rs, .slice A n c, .int .i64 la]] w (ZoneNew w st rs l la) := by
  obtain ⟨i0, hi, hz0, hz1, hz2⟩ := info_parts i5
  have HB := (Below.refl w.heap.size w).alloc (Nat.le_refl _) (.cells #[.int .i64 st, .int .i64 rs, .slice A n c, .int .i64 la] 56)
  have Bz := Blk.new w #[.int .i64 st, .int .i64 rs, .slice A n c, .int .i64 la] 56
  have s0 := h.alloc (.cells #[.int .i64 st, .int .i64 rs, .slice A n c, .int .i64 la] 56)
  have V := Blk.new (w.alloc (.cells #[.int .i64 st, .int .i64 rs, .slice A n c, .int .i64 la] 56)) #[.int .i64 0, .int .i64 0, .slice none 0 0, .int .i64 0] 56
  have bS := (Below.refl (w.alloc (.cells #[.int .i64 st, .int .i64 rs, .slice A n c, .int .i64 la] 56)).heap.size (w.alloc (.cells #[.int .i64 st, .int .i64 rs, .slice A n c, .int .i64 la] 56))).alloc (Nat.le_refl _) (.cells #[.int .i64 0, .int .i64 0, .slice none 0 0, .int .i64 0] 56)
  simp only [World.size_alloc] at V
  go_enter Tryd.func42, Tryd.ntmps42
  go_wp2_with fail
  have hs0 : w.heap.size + 1 = (w.alloc (.cells #[.int .i64 st, .int .i64 rs, .slice A n c, .int .i64 la] 56)).heap.size := by simp
  obtain ⟨kv, hkv⟩ : ∃ k, w.heap.size + 1 = k := ⟨_, rfl⟩
  simp only [hkv]
  rw [hkv] at V hs0
  generalize (w.alloc (.cells #[.int .i64 st, .int .i64 rs, .slice A n c, .int .i64 la] 56)).alloc (.cells #[.int .i64 0, .int .i64 0, .slice none 0 0, .int .i64 0] 56) = W1 at *
  generalize w.alloc (.cells #[.int .i64 st, .int .i64 rs, .slice A n c, .int .i64 la] 56) = W0 at *
  have hcv : W0.heap.size ≤ kv := Nat.le_of_eq hs0.symm
  have hcw : w.heap.size ≤ W0.heap.size := HB.size
  clear hs0 hkv
  refine wp_region_held_drew (S := fun w' => Below W0.heap.size W0 w') (by kernel_rfl) (bS.drew) (fun hHeld => ?_)
  have b := hHeld
  replace V := V.drew
  generalize W1.drew = wd at *
  try simp only [Act.put, List.setIfInBounds_toArray, List.set_cons_zero, List.set_cons_succ]
  refine wpAnyH_take (i := 0) (v := ?_) (by simp only [List.getElem?_toArray, List.getElem?_cons_zero]; rfl) (by kernel_rfl) (by kernel_rfl) (by kernel_rfl) (by intro _ _ _ h; exact h) (Or.inl ⟨by rfl, ?_⟩) hHeld ?_
  rotate_left 1
  · intro wq hSw
    try dsimp only at hSw
    go_simp
    try (with_reducible rfl)
  try simp only [Act.put, List.setIfInBounds_toArray, List.set_cons_zero, List.set_cons_succ]
  refine wpAnyH_take (i := 1) (v := ?_) (by simp only [List.getElem?_toArray, List.getElem?_cons_succ, List.getElem?_cons_zero]; rfl) (by kernel_rfl) (by kernel_rfl) (by kernel_rfl) (by intro _ _ _ h; exact h) (Or.inl ⟨by rfl, ?_⟩) hHeld ?_
  rotate_left 1
  · intro wq hSw
    try dsimp only at hSw
    obtain ⟨x0, x1, x2, x3, _⟩ := (Bz.under hSw).four
    go_simp
    try (with_reducible rfl)
  try simp only [Act.put, List.setIfInBounds_toArray, List.set_cons_zero, List.set_cons_succ]
  refine wpAnyH_take (i := 2) (v := ?_) (by simp only [List.getElem?_toArray, List.getElem?_cons_succ, List.getElem?_cons_zero]; rfl) (by kernel_rfl) (by kernel_rfl) (by kernel_rfl) (by intro _ _ _ h; exact h) (Or.inl ⟨by rfl, ?_⟩) hHeld ?_
  rotate_left 1
  · intro wq hSw
    try dsimp only at hSw
    go_simp
    try (with_reducible rfl)
  try simp only [Act.put, List.setIfInBounds_toArray, List.set_cons_zero, List.set_cons_succ]
  refine wpAnyH_take (i := 3) (v := ?_) (by simp only [List.getElem?_toArray, List.getElem?_cons_succ, List.getElem?_cons_zero]; rfl) (by kernel_rfl) (by kernel_rfl) (by kernel_rfl) (by intro _ _ _ h; exact h) (Or.inl ⟨by rfl, ?_⟩) hHeld ?_
  rotate_left 1
  · intro wq hSw
    try dsimp only at hSw
    obtain ⟨x0, x1, x2, x3, _⟩ := (Bz.under hSw).four
    go_simp
    try (with_reducible rfl)
  try simp only [Act.put, List.setIfInBounds_toArray, List.set_cons_zero, List.set_cons_succ]
  refine wpAnyH_take (i := 5) (v := ?_) (by simp only [List.getElem?_toArray, List.getElem?_cons_succ, List.getElem?_cons_zero]; rfl) (by kernel_rfl) (by kernel_rfl) (by kernel_rfl) (by intro _ _ _ h; exact h) (Or.inl ⟨by rfl, ?_⟩) hHeld ?_
  rotate_left 1
  · intro wq hSw
    try dsimp only at hSw
    go_simp
    try (with_reducible rfl)
  try simp only [Act.put, List.setIfInBounds_toArray, List.set_cons_zero, List.set_cons_succ]
  refine wpAnyH_take (i := 6) (v := ?_) (by simp only [List.getElem?_toArray, List.getElem?_cons_succ, List.getElem?_cons_zero]; rfl) (by kernel_rfl) (by kernel_rfl) (by kernel_rfl) (by intro _ _ _ h; exact h) (Or.inl ⟨by rfl, ?_⟩) hHeld ?_
  rotate_left 1
  · intro wq hSw
    try dsimp only at hSw
    obtain ⟨x0, x1, x2, x3, _⟩ := (Bz.under hSw).four
    go_simp
    try (with_reducible rfl)
  try simp only [Act.put, List.setIfInBounds_toArray, List.set_cons_zero, List.set_cons_succ]
  refine wpAnyH_take (i := 8) (v := ?_) (by simp only [List.getElem?_toArray, List.getElem?_cons_succ, List.getElem?_cons_zero]; rfl) (by kernel_rfl) (by kernel_rfl) (by kernel_rfl) (by intro _ _ _ h; exact h) (Or.inl ⟨by rfl, ?_⟩) hHeld ?_
  rotate_left 1
  · intro wq hSw
    try dsimp only at hSw
    go_simp
    try (with_reducible rfl)
  try simp only [Act.put, List.setIfInBounds_toArray, List.set_cons_zero, List.set_cons_succ]
  refine wpAnyH_take (i := 9) (v := ?_) (by simp only [List.getElem?_toArray, List.getElem?_cons_succ, List.getElem?_cons_zero]; rfl) (by kernel_rfl) (by kernel_rfl) (by kernel_rfl) (by intro _ _ _ h; exact h) (Or.inl ⟨by rfl, ?_⟩) hHeld ?_
  rotate_left 1
  · intro wq hSw
    try dsimp only at hSw
    obtain ⟨x0, x1, x2, x3, _⟩ := (Bz.under hSw).four
    go_simp
    try (with_reducible rfl)
  try simp only [Act.put, List.setIfInBounds_toArray, List.set_cons_zero, List.set_cons_succ]
  refine wpAnyH_ready (rs := [4]) (by kernel_rfl) (by simp) ?_
  refine AllReadyH.cons (by simp only [List.getElem?_toArray, List.getElem?_cons_succ, List.getElem?_cons_zero]; rfl) (fun K hK => ?_) AllReadyH.nil
  go_simp
  have O := built_own wd #[] 5 [] 0 rfl rfl (by decide) b.size
  have hneU := slice_ne 0 V.lt
  replace V := V.alloc (.cells #[] 5)
  replace b := b.alloc b.size (.cells #[] 5)
  generalize hu7 : Value.slice (some ⟨wd.heap.size, 0, none⟩) 0 0 = u7 at *
  generalize wd.alloc (.cells #[] 5) = w_4_1 at *
  refine hK.out _ _ b (fun hHeld => ?_)
  clear hK K
  try simp only [Act.put, List.setIfInBounds_toArray, List.set_cons_zero, List.set_cons_succ]
  refine wpAnyH_ready (rs := [7]) (by kernel_rfl) (by simp) ?_
  refine AllReadyH.cons (by simp only [List.getElem?_toArray, List.getElem?_cons_succ, List.getElem?_cons_zero]; rfl) (fun K hK => ?_) AllReadyH.nil
  obtain ⟨Ar, cr, w_7_2, hr, hO⟩ := run_app (P := Tryd.prog) (Own.start O b.size) 24 24 i0 (.int .u8 0) 1 Tryd.underlying24 hi hz0 hz1 hz2 rfl _ _ _ _ (s0.below b) (oneCell8 _) (by omega) (by omega)
  refine (if_pos (by rfl)).mpr (wp_app (Operand.tmp 7) (Operand.tmp 9) 24 rfl rfl rfl hr ?_)
  try simp only [Act.put, List.setIfInBounds_toArray, List.set_cons_zero, List.set_cons_succ]
  have hneU2 := own_ne_step hO hneU V.lt
  replace V := V.own hO hneU
  replace hneU := hneU2
  clear hneU2
  replace b := own_below O hO b
  replace O := hO.own
  simp only [List.nil_append, Nat.zero_add] at O ⊢
  have N := O
  have hneA : ∀ ad, Ar = some ad → ad.block ≠ kv := fun ad hA => hneU ad.block (by rw [hA]; rfl)
  clear hr hO O
  refine hK.out _ _ b (fun hHeld => ?_)
  clear hK K
  try simp only [Act.put, List.setIfInBounds_toArray, List.set_cons_zero, List.set_cons_succ]
  refine wpAnyH_take (i := 10) (v := ?_) (by simp only [List.getElem?_toArray, List.getElem?_cons_succ, List.getElem?_cons_zero]; rfl) (by kernel_rfl) (by kernel_rfl) (by kernel_rfl) (by intro _ _ _ h; exact h) (Or.inl ⟨by rfl, ?_⟩) hHeld ?_
  rotate_left 1
  · intro wq hSw
    try dsimp only at hSw
    go_simp
    try (with_reducible rfl)
  try simp only [Act.put, List.setIfInBounds_toArray, List.set_cons_zero, List.set_cons_succ]
  refine wpAnyH_ready (rs := [11]) (by kernel_rfl) (by simp) ?_
  refine AllReadyH.cons (by simp only [List.getElem?_toArray, List.getElem?_cons_succ, List.getElem?_cons_zero]; rfl) (fun K hK => ?_) AllReadyH.nil
  obtain ⟨z0, z1, z2, z3, i0', i1', i2', i3'⟩ := V.four
  go_simp
  skip
  have V2 := ((((V.set 0 (.int .i64 st)).set 1 (.int .i64 rs)).set 2 (.slice Ar n cr)).set 3 (.int .i64 la))
  simp only [List.setIfInBounds_toArray, List.set_cons_zero, List.set_cons_succ] at V2
  have N2 := (own_far (own_far (own_far (own_far N (a := ⟨kv, 0, none⟩) hneA (.int .i64 st)) (a := ⟨kv, 1, none⟩) hneA (.int .i64 rs)) (a := ⟨kv, 2, none⟩) hneA (.slice Ar n cr)) (a := ⟨kv, 3, none⟩) hneA (.int .i64 la))
  have b2 := ((((b.setCell (p := ⟨kv, 0, none⟩) hcv (.int .i64 st)).setCell (p := ⟨kv, 1, none⟩) hcv (.int .i64 rs)).setCell (p := ⟨kv, 2, none⟩) hcv (.slice Ar n cr)).setCell (p := ⟨kv, 3, none⟩) hcv (.int .i64 la))
  clear z0 z1 z2 z3 i0' i1' i2' i3'
  clear V N b
  generalize ((((w_7_2.setCell ⟨kv, 0, none⟩ (.int .i64 st)).setCell ⟨kv, 1, none⟩ (.int .i64 rs)).setCell ⟨kv, 2, none⟩ (.slice Ar n cr)).setCell ⟨kv, 3, none⟩ (.int .i64 la)) = w_11_3 at *
  have V := V2
  have N := N2
  have b := b2
  clear V2 N2 b2
  refine hK.out _ _ b (fun hHeld => ?_)
  clear hK K
  try simp only [Act.put, List.setIfInBounds_toArray, List.set_cons_zero, List.set_cons_succ]
  refine wpAnyH_done (by kernel_rfl) ?_ _
  go_wp2
  try simp only [Exit.inBlock, Exit.then]
  exact ret_blk rfl rfl V Tryd.underlying56 (by kernel_rfl) (ZoneNew.mk (own_base N hcw) (HB.trans (b.mono HB.size)))
end Go.Proofs.YtnejiclghnigiaaDoor
namespace Go.Proofs.YtnejiclghnigiaaDoor
open Go.RowKit Go.Wag
set_option linter.unusedVariables false
set_option maxRecDepth 20000

theorem own_ne_blk {base B k : Nat} {w : World} {st rs la : Int} {A : Option Addr} {n c : Nat} {l : List UInt8} (h : ZVar base B w k st rs la A n c l) : ∀ b, (Value.slice A n c).ownBlock = some b → b ≠ k := fun b hb e => by
  cases A with
  | none => cases hb
  | some ad => exact Nat.ne_of_lt (h.apart ad rfl).2 ((Option.some.inj hb).trans e)
theorem own_ge {base B k B' : Nat} {w : World} {st rs la : Int} {A : Option Addr} {n c : Nat} {l : List UInt8} (h : ZVar base B w k st rs la A n c l) (hB : B' ≤ B) : ∀ b, (Value.slice A n c).ownBlock = some b → B' ≤ b := fun b hb => by
  cases A with
  | none => cases hb
  | some ad =>
    have h1 := (h.apart ad rfl).1
    have h2 : ad.block = b := Option.some.inj hb
    omega
theorem own_ne_low {base B k j : Nat} {w : World} {st rs la : Int} {A : Option Addr} {n c : Nat} {l : List UInt8} (h : ZVar base B w k st rs la A n c l) (hj : j < B) : ∀ b, (Value.slice A n c).ownBlock = some b → b ≠ j := fun b hb e => by
  have := own_ge h (Nat.le_refl _) b hb
  omega
theorem own_ne_step' {base base' B k m : Nat} {w w' : World} {st rs la : Int} {A A' : Option Addr} {n c c' : Nat} {l : List UInt8} {ys : List Value} {e : TypeId} (hO : Own base' e w w' (.slice A n c) (.slice A' m c') m ys) (h : ZVar base B w k st rs la A n c l) : ∀ ad, A' = some ad → ad.block ≠ k := fun ad hA => by
  subst hA
  exact own_ne_step hO (own_ne_blk h) h.blk.lt ad.block rfl

theorem own_cut {w : World} {base : Nat} {e : TypeId} {A : Option Addr} {n c k : Nat} {xs : List Value} (h : w.ownsRow base e 1 (.slice A n c) n xs) (hk : k ≤ n) : w.ownsRow base e 1 (.slice A k c) k (xs.take k) := by
  obtain ⟨hl, hn | ⟨g, cap, cur, hv, hb, hg, hnc, hm, hs, ht⟩⟩ := h
  · obtain ⟨hv, h0⟩ := hn
    obtain ⟨rfl, -, rfl⟩ : A = none ∧ n = 0 ∧ c = 0 := by simpa using hv
    obtain rfl : k = 0 := by omega
    exact ⟨by simp, .inl ⟨rfl, rfl⟩⟩
  · obtain ⟨rfl, rfl⟩ : A = some ⟨g, 0, none⟩ ∧ c = cap := by simpa using hv
    refine ⟨?_, .inr ⟨g, c, cur, rfl, hb, hg, by omega, hm, hs, ?_⟩⟩
    · rw [List.length_take, hl]
      omega
    · rw [← ht, List.take_take]
      congr 1
      omega
theorem cr_size {st rs n la size keep : Int} (hc : chkF st rs n la size = true) (h0 : ¬ crK n la keep = 0) (hs : crK n la keep = size) : st = 3 := by
  have h := chk_all hc
  unfold crK at h0 hs
  omega

end Go.Proofs.YtnejiclghnigiaaDoor
namespace Go.Proofs.YtnejiclghnigiaaDoor
open Go.RowKit Go.Wag
set_option linter.unusedVariables false
set_option maxRecDepth 20000

end Go.Proofs.YtnejiclghnigiaaDoor
namespace Go.Wag
open Go.RowKit
set_option linter.unusedVariables false
set_option maxRecDepth 20000
/-- A row of zones of one's own with room behind it, in blocks that meet F. -/
structure Zr (F : Nat → Prop) (t : TypeId) (w : World) (g : Nat) (zs : List Zp) : Prop where
  base : F g
  blk : ∃ vs : Array Value, zs.length * 4 ≤ vs.size ∧ Blk w g vs t
  at_ : ∀ i z, zs[i]? = some z → ZAt (fun b => F b ∧ b ≠ g) w g (i * 4) z
section
variable {F : Nat → Prop} {t : TypeId} {w w' : World} {g : Nat} {zs : List Zp}
theorem Zr.lt (h : Zr F t w g zs) : g < w.heap.size := by
  obtain ⟨vs, _, hb⟩ := h.blk
  exact hb.lt
theorem Zr.imp {F' : Nat → Prop} (h : Zr F t w g zs) (hF : ∀ b, b < w.heap.size → F b → F' b) : Zr F' t w g zs :=
  ⟨hF g h.lt h.base, h.blk, fun i z hz => (h.at_ i z hz).imp (fun b hb hh => ⟨hF b hb hh.1, hh.2⟩)⟩
theorem Zr.toZs (h : Zr F t w g zs) (hn : zs.length ≤ 100) : Zs F w (some ⟨g, 0, none⟩) zs.length zs.length zs :=
  ⟨rfl, Nat.le_refl _, by omega, fun _ => ⟨g, 0, rfl, h.base, h.lt, fun i z hz => by
    rw [Nat.zero_add]
    exact (h.at_ i z hz).imp (fun b _ hb => hb.1)⟩⟩
theorem Zr.below {Bw : Nat} (h : Zr F t w g zs) (hb : Below Bw w w') (hB : w.heap.size ≤ Bw) : Zr F t w' g zs := by
  obtain ⟨vs, hv, hk⟩ := h.blk
  have hg := hk.lt
  refine ⟨h.base, ⟨vs, hv, hk.below hb (by omega)⟩, fun i z hz => ?_⟩
  obtain ⟨A, c, h0, h1, h2, h3, hS, hA⟩ := h.at_ i z hz
  have hx : ∀ p : Addr, p.block < w.heap.size → w'.cell? p = w.cell? p := fun p hp => hb.cell (by omega)
  refine ⟨A, c, (hx ⟨g, i * 4, none⟩ hg).trans h0, (hx ⟨g, i * 4 + 1, none⟩ hg).trans h1, (hx ⟨g, i * 4 + 2, none⟩ hg).trans h2, (hx ⟨g, i * 4 + 3, none⟩ hg).trans h3, hS.keep hb.size hx, hA⟩
theorem Zr.under (h : Zr F t w g zs) (hb : Below w.heap.size w w') : Zr F t w' g zs := h.below hb (Nat.le_refl _)
theorem Zr.alloc (h : Zr F t w g zs) (o : Obj) : Zr F t (w.alloc o) g zs := h.under ((Below.refl _ _).alloc (Nat.le_refl _) o)
/-- A store into a block that does not meet F. -/
theorem Zr.far (h : Zr F t w g zs) {a : Addr} (ha : ¬ F a.block) (u : Value) : Zr F t (w.setCell a u) g zs := by
  obtain ⟨vs, hv, hk⟩ := h.blk
  have hbase := h.base
  have hga : g ≠ a.block := fun e => ha (e ▸ hbase)
  refine ⟨h.base, ⟨vs, hv, hk.far hga u⟩, fun i z hz => ?_⟩
  obtain ⟨A, c, h0, h1, h2, h3, hS, hA⟩ := h.at_ i z hz
  have hx : ∀ j, (w.setCell a u).cell? ⟨g, j, none⟩ = w.cell? ⟨g, j, none⟩ := fun j => cell_far w u hga
  exact ⟨A, c, (hx _).trans h0, (hx _).trans h1, (hx _).trans h2, (hx _).trans h3, hS.farz (fun hn ad e hh => ha (hh ▸ (hA hn ad e).1)) u, hA⟩
/-- Zone k of them: its cells, and that they may be written. -/
theorem Zr.cells (h : Zr F t w g zs) {k : Nat} (hk : k < zs.length) : (∃ a b c d, w.cell? ⟨g, k * 4, none⟩ = some a ∧ w.cell? ⟨g, k * 4 + 1, none⟩ = some b ∧ w.cell? ⟨g, k * 4 + 2, none⟩ = some c ∧ w.cell? ⟨g, k * 4 + 3, none⟩ = some d) ∧
    w.frozen? ⟨g, k * 4, none⟩ = false ∧ w.frozen? ⟨g, k * 4 + 1, none⟩ = false ∧ w.frozen? ⟨g, k * 4 + 2, none⟩ = false ∧ w.frozen? ⟨g, k * 4 + 3, none⟩ = false := by
  obtain ⟨vs, _, hb⟩ := h.blk
  obtain ⟨A, c, h0, h1, h2, h3, _⟩ := h.at_ k _ (List.getElem?_eq_getElem hk)
  exact ⟨⟨_, _, _, _, h0, h1, h2, h3⟩, hb.frozen _, hb.frozen _, hb.frozen _, hb.frozen _⟩
/-- The store of a zone at place k. -/
theorem Zr.set (h : Zr F t w g zs) {k : Nat} (hk : k < zs.length) {A : Option Addr} {c : Nat} (z : Zp) (hS : Sl w A z.l.length c (z.l.map v8)) (hA : 0 < z.l.length → ∀ ad, A = some ad → F ad.block ∧ ad.block ≠ g) :
    Zr F t ((((w.setCell ⟨g, k * 4, none⟩ (.int .i64 z.st)).setCell ⟨g, k * 4 + 1, none⟩ (.int .i64 z.rs)).setCell ⟨g, k * 4 + 2, none⟩ (.slice A z.l.length c)).setCell ⟨g, k * 4 + 3, none⟩ (.int .i64 z.la)) g (zs.set k z) := by
  obtain ⟨vs, hv, hb⟩ := h.blk
  have b1 := hb.set (k * 4) (.int .i64 z.st)
  have b2 := b1.set (k * 4 + 1) (.int .i64 z.rs)
  have b3 := b2.set (k * 4 + 2) (.slice A z.l.length c)
  have b4 := b3.set (k * 4 + 3) (.int .i64 z.la)
  have hx : ∀ j, ((((w.setCell ⟨g, k * 4, none⟩ (.int .i64 z.st)).setCell ⟨g, k * 4 + 1, none⟩ (.int .i64 z.rs)).setCell ⟨g, k * 4 + 2, none⟩ (.slice A z.l.length c)).setCell ⟨g, k * 4 + 3, none⟩ (.int .i64 z.la)).cell? ⟨g, j, none⟩ =
      if k * 4 + 3 = j then some (.int .i64 z.la) else if k * 4 + 2 = j then some (.slice A z.l.length c) else if k * 4 + 1 = j then some (.int .i64 z.rs) else if k * 4 = j then some (.int .i64 z.st) else w.cell? ⟨g, j, none⟩ := fun j => by
    rw [cell_set b3 (by simp; omega), cell_set b2 (by simp; omega), cell_set b1 (by simp; omega), cell_set hb (by omega)]
  have hy : ∀ p : Addr, p.block ≠ g → ((((w.setCell ⟨g, k * 4, none⟩ (.int .i64 z.st)).setCell ⟨g, k * 4 + 1, none⟩ (.int .i64 z.rs)).setCell ⟨g, k * 4 + 2, none⟩ (.slice A z.l.length c)).setCell ⟨g, k * 4 + 3, none⟩ (.int .i64 z.la)).cell? p = w.cell? p := fun p hp => by
    rw [cell_far _ _ hp, cell_far _ _ hp, cell_far _ _ hp, cell_far _ _ hp]
  have hz : w.heap.size ≤ ((((w.setCell ⟨g, k * 4, none⟩ (.int .i64 z.st)).setCell ⟨g, k * 4 + 1, none⟩ (.int .i64 z.rs)).setCell ⟨g, k * 4 + 2, none⟩ (.slice A z.l.length c)).setCell ⟨g, k * 4 + 3, none⟩ (.int .i64 z.la)).heap.size := by simp [World.setCell]
  generalize ((((w.setCell ⟨g, k * 4, none⟩ (.int .i64 z.st)).setCell ⟨g, k * 4 + 1, none⟩ (.int .i64 z.rs)).setCell ⟨g, k * 4 + 2, none⟩ (.slice A z.l.length c)).setCell ⟨g, k * 4 + 3, none⟩ (.int .i64 z.la)) = w4 at *
  have hkeep : ∀ {A' : Option Addr} {n' c' : Nat} {xs : List Value}, Sl w A' n' c' xs → (0 < n' → ∀ ad, A' = some ad → F ad.block ∧ ad.block ≠ g) → Sl w4 A' n' c' xs := fun hS hA => ⟨hS.len, hS.cap, hS.big, fun hn => by
    obtain ⟨ad, e, hb, hc⟩ := hS.cells hn
    exact ⟨ad, e, by omega, fun j u hu => (hy _ (by rw [add_block]; exact (hA hn ad e).2)).trans (hc j u hu)⟩⟩
  refine ⟨h.base, ⟨_, by simpa using hv, b4⟩, fun i zi hi => ?_⟩
  rw [List.getElem?_set] at hi
  by_cases hki : k = i
  · subst hki
    rw [if_pos rfl, if_pos hk] at hi
    cases hi
    exact ⟨A, c, by rw [hx]; simp, by rw [hx]; simp, by rw [hx]; simp, by rw [hx]; simp, hkeep hS hA, hA⟩
  · rw [if_neg hki] at hi
    obtain ⟨A', c', h0, h1, h2, h3, hS', hA'⟩ := h.at_ i zi hi
    have hq : ∀ j, j < 4 → w4.cell? ⟨g, i * 4 + j, none⟩ = w.cell? ⟨g, i * 4 + j, none⟩ := fun j hj => by
      rw [hx, if_neg (by omega), if_neg (by omega), if_neg (by omega), if_neg (by omega)]
    exact ⟨A', c', (hq 0 (by omega)).trans h0, (hq 1 (by omega)).trans h1, (hq 2 (by omega)).trans h2, (hq 3 (by omega)).trans h3, hkeep hS' hA', hA'⟩
end
end Go.Wag
namespace Go.Proofs.YtnejiclghnigiaaDoor
open Go.RowKit Go.Wag
set_option linter.unusedVariables false
set_option maxRecDepth 20000

/-- A row of zones that is appended to: cells and bytes of one's own, from block B on. -/
structure Zq (B : Nat) (w : World) (A : Option Addr) (n c : Nat) (zs : List Zp) : Prop where
  len : zs.length = n
  row : ∃ xs, w.ownsRow B 56 4 (.slice A n c) n xs ∧ ∀ i z, zs[i]? = some z → ∃ Ai ci, xs[i * 4]? = some (.int .i64 z.st) ∧ xs[i * 4 + 1]? = some (.int .i64 z.rs) ∧ xs[i * 4 + 2]? = some (.slice Ai z.l.length ci) ∧ xs[i * 4 + 3]? = some (.int .i64 z.la) ∧ w.ownsRow B 5 1 (.slice Ai z.l.length ci) z.l.length (z.l.map v8)
section
variable {B : Nat} {w w' : World} {A : Option Addr} {n c : Nat} {zs : List Zp}
theorem Zq.nil (B : Nat) (w : World) : Zq B w none 0 0 [] := ⟨rfl, [], World.ownsRow_nil _ _ _ _, fun i z h => by simp at h⟩
theorem row_apart {Ai : Option Addr} {m ci k : Nat} {xs ys : List Value} (h : w.ownsRow B 56 4 (.slice A n c) n xs) (hd : w.ownsRow B 5 1 (.slice Ai m ci) k ys) : (Value.slice Ai m ci).ownBlock = none ∨ (Value.slice Ai m ci).ownBlock ≠ (Value.slice A n c).ownBlock := by
  rcases hd.2 with ⟨hv, _⟩ | ⟨g, cap, cur, hv, _, hg, _⟩
  · exact .inl (by rw [hv]; rfl)
  · refine .inr (fun e => ?_)
    rw [hv] at e
    rcases h.2 with ⟨hv2, _⟩ | ⟨g2, cap2, cur2, hv2, _, hg2, _⟩
    · rw [hv2] at e
      cases e
    · rw [hv2] at e
      have e2 : g = g2 := by simpa [Value.ownBlock] using e
      subst e2
      rw [hg] at hg2
      cases hg2
theorem Zq.grown (h : Zq B w A n c zs) (hb : Below w.heap.size w w') : Zq B w' A n c zs := by
  obtain ⟨xs, hx, hz⟩ := h.row
  refine ⟨h.len, xs, hx.kept (only_of hb none) (by cases hv : Value.ownBlock (.slice A n c) <;> simp), fun i z hi => ?_⟩
  obtain ⟨Ai, ci, h0, h1, h2, h3, h4⟩ := hz i z hi
  exact ⟨Ai, ci, h0, h1, h2, h3, h4.kept (only_of hb none) (by cases hv : Value.ownBlock (.slice Ai z.l.length ci) <;> simp)⟩
theorem Zq.under (h : Zq B w A n c zs) (hb : Below w.heap.size w w') : Zq B w' A n c zs := h.grown hb
theorem Zq.drew (h : Zq B w A n c zs) : Zq B w.drew A n c zs := h.grown (Below.refl _ _).drew
theorem Zq.alloc (h : Zq B w A n c zs) (o : Obj) : Zq B (w.alloc o) A n c zs := h.grown ((Below.refl _ _).alloc (Nat.le_refl _) o)
theorem Zq.ge (h : Zq B w A n c zs) : ∀ b, (Value.slice A n c).ownBlock = some b → B ≤ b := fun b hb => by
  obtain ⟨xs, hx, _⟩ := h.row
  exact (hx.lt b hb).1
theorem own_far4 {e : TypeId} {size m k : Nat} {xs : List Value} {A : Option Addr} {c : Nat} (h : w.ownsRow B e size (.slice A m c) k xs) {a : Addr} (ha : a.block < B) (u : Value) : (w.setCell a u).ownsRow B e size (.slice A m c) k xs := by
  refine World.ownsRow.kept h (grown_set w a u) ?_
  cases hv : (Value.slice A m c).ownBlock with
  | none => exact .inl rfl
  | some b =>
    refine .inr (fun e => ?_)
    have := (h.lt b hv).1
    have e2 := Option.some.inj e
    omega
theorem Zq.far (h : Zq B w A n c zs) {a : Addr} (ha : a.block < B) (u : Value) : Zq B (w.setCell a u) A n c zs := by
  obtain ⟨xs, hx, hz⟩ := h.row
  refine ⟨h.len, xs, own_far4 hx ha u, fun i z hi => ?_⟩
  obtain ⟨Ai, ci, h0, h1, h2, h3, h4⟩ := hz i z hi
  exact ⟨Ai, ci, h0, h1, h2, h3, own_far4 h4 ha u⟩
theorem Zq.app (h : Zq B w A n c zs) (hB : B ≤ w.heap.size) (hn : n ≤ 100) (z : Zp) {A2 : Option Addr} {c2 s : Nat} (N : w.ownsRow B 5 1 (.slice A2 z.l.length c2) z.l.length (z.l.map v8)) (Bs : Blk w s #[.int .i64 z.st, .int .i64 z.rs, .slice A2 z.l.length c2, .int .i64 z.la] 56) :
    ∃ A' c' w', (Builtin.append_ #[34, 34] 34 #[.slice A n c, .slice (some ⟨s, 0, none⟩) 1 1]).run Tryd.prog w = .ok (.slice A' (n + 1) c') w' ∧ Zq B w' A' (n + 1) c' (zs ++ [z]) ∧ w.grownBy w' (Value.slice A n c).ownBlock := by
  obtain ⟨xs, hx, hz⟩ := h.row
  obtain ⟨i0, hi, hz0, hz1, hz2⟩ := info_parts i46
  obtain ⟨v', w', hr, h2, h3, _, h5⟩ := run_append_own_at (P := Tryd.prog) w B 34 34 56 i0 _ 4 48 Tryd.underlying34 hi hz0 hz1 hz2 rfl (by decide) (.slice A n c) n xs hx ⟨s, 0, none⟩ 1 1 [.int .i64 z.st, .int .i64 z.rs, .slice A2 z.l.length c2, .int .i64 z.la] rfl
    (fun j u hu => by
      have e : ((⟨s, 0, none⟩ : Addr).add j) = ⟨s, j, none⟩ := by unfold Addr.add; split <;> simp_all
      rw [e, Bs.cell]
      simpa using hu)
    (fun u hu => by
      simp only [List.mem_cons, List.not_mem_nil, or_false] at hu
      rcases hu with rfl | rfl | rfl | rfl <;> rfl) (by simp only [maxLen]; omega) (by omega) hB
  obtain ⟨A', c', rfl⟩ := own_form h2
  have hxl : xs.length = n * 4 := hx.1
  refine ⟨A', c', w', hr, ⟨by simp [h.len], _, h2, fun i x hi => ?_⟩, h3⟩
  have hl := h.len
  by_cases hin : i < n
  · rw [List.getElem?_append_left (by omega)] at hi
    obtain ⟨Ai, ci, h0, h1, h2, h3', h4⟩ := hz i x hi
    refine ⟨Ai, ci, ?_, ?_, ?_, ?_, h4.kept h3 (row_apart hx h4)⟩
    · rw [List.getElem?_append_left (by omega)]; exact h0
    · rw [List.getElem?_append_left (by omega)]; exact h1
    · rw [List.getElem?_append_left (by omega)]; exact h2
    · rw [List.getElem?_append_left (by omega)]; exact h3'
  · have hi2 := (List.getElem?_eq_some_iff.1 hi).1
    obtain rfl : i = n := by simp at hi2; omega
    rw [List.getElem?_append_right (by omega), hl, Nat.sub_self] at hi
    cases hi
    refine ⟨A2, c2, ?_, ?_, ?_, ?_, N.kept h3 (row_apart hx N)⟩
    · rw [List.getElem?_append_right (by omega), hxl, Nat.sub_self]; rfl
    · rw [List.getElem?_append_right (by omega), hxl, show i * 4 + 1 - i * 4 = 1 by omega]; rfl
    · rw [List.getElem?_append_right (by omega), hxl, show i * 4 + 2 - i * 4 = 2 by omega]; rfl
    · rw [List.getElem?_append_right (by omega), hxl, show i * 4 + 3 - i * 4 = 3 by omega]; rfl
theorem Zq.at4 {g : Nat} (h : Zq B w (some ⟨g, 0, none⟩) n c zs) (i : Nat) (z : Zp) (hi : zs[i]? = some z) : ZAt (fun b => B ≤ b ∧ b ≠ g) w g (i * 4) z := by
  obtain ⟨xs, hx, hz⟩ := h.row
  obtain ⟨Ai, ci, h0, h1, h2, h3, h4⟩ := hz i z hi
  have e : ∀ j, ((⟨g, 0, none⟩ : Addr).add j) = ⟨g, j, none⟩ := fun j => by unfold Addr.add; split <;> simp_all
  have hc := fun j u hu => (e j) ▸ hx.cells (g := g) rfl j u hu
  refine ⟨Ai, ci, hc _ _ h0, hc _ _ h1, hc _ _ h2, hc _ _ h3, Sl.of_own h4, fun hn ad hA => ?_⟩
  subst hA
  refine ⟨(h4.lt ad.block rfl).1, fun e => ?_⟩
  rcases row_apart hx h4 with h | h
  · cases h
  · exact h (by simp [Value.ownBlock, e])
theorem Zq.toZs (h : Zq B w A n c zs) : Zs (fun b => B ≤ b) w A n c zs := by
  obtain ⟨xs, hx, hz⟩ := id h.row
  rcases hx.2 with ⟨hv, rfl⟩ | ⟨g, cap, cur, hv, hB, hg, hnc, hm, _⟩
  · obtain ⟨rfl, -, rfl⟩ : A = none ∧ 0 = 0 ∧ c = 0 := by simpa using hv
    exact ⟨h.len, Nat.le_refl _, by omega, fun h => absurd h (by omega)⟩
  · obtain ⟨rfl, rfl⟩ : A = some ⟨g, 0, none⟩ ∧ c = cap := by simpa using hv
    exact ⟨h.len, hnc, by simpa [maxLen] using hm, fun _ => ⟨g, 0, rfl, hB, (Array.getElem?_eq_some_iff.1 hg).1, fun i z hi => by
      rw [Nat.zero_add]
      exact (h.at4 i z hi).imp (fun b _ hb => hb.1)⟩⟩
theorem Zq.toZr (h : Zq B w A n c zs) (hn : 0 < n) : ∃ g, A = some ⟨g, 0, none⟩ ∧ n ≤ c ∧ Zr (fun b => B ≤ b) 56 w g zs := by
  obtain ⟨xs, hx, hz⟩ := id h.row
  rcases hx.2 with ⟨hv, rfl⟩ | ⟨g, cap, cur, hv, hB, hg, hnc, hm, hcs, _⟩
  · omega
  · obtain ⟨rfl, rfl⟩ : A = some ⟨g, 0, none⟩ ∧ c = cap := by simpa using hv
    exact ⟨g, rfl, hnc, hB, ⟨cur, by rw [h.len, hcs]; omega, hg⟩, fun i z hi => h.at4 i z hi⟩
end

/-- The document's copy of a device: in memory of its own; where it has zones they may be written. -/
def CopyPost (w : World) (size lf dn : Int) (dw : Bool) (zs : List Zp) (m : Nat) (e : Ending) (w' : World) : Prop :=
  ∃ A c, e = .returned (.agg #[.int .i64 size, .slice A m c, .int .i64 lf, .bool dw, .int .i64 dn]) ∧ Zs (fun b => w.heap.size ≤ b) w' A m c zs ∧ (0 < m → ∃ g, A = some ⟨g, 0, none⟩ ∧ m ≤ c ∧ Zr (fun b => w.heap.size ≤ b) 56 w' g zs) ∧ Below w.heap.size w w'

set_option maxRecDepth 20000 in
set_option maxHeartbeats 4000000 in
theorem refCopy4_any {F : Nat → Prop} (size lf dn : Int) (dw : Bool) (A0 : Option Addr) (n c : Nat) (zs : List Zp) (w : World) (h : Zs F w A0 n c zs) (hsm : Sm zs) :
    Calls Tryd.prog 23 #[.agg #[.int .i64 size, .slice A0 n c, .int .i64 lf, .bool dw, .int .i64 dn]] w (CopyPost w size lf dn dw zs n) := by
  have hlen := h.len
  have hcap := h.cap
  have hn := hsm.1
  have Bd := ((Blk.new w #[.int .i64 size, .slice A0 n c, .int .i64 lf, .bool dw, .int .i64 dn] 36).alloc (.cells #[.int .i64 0, .slice none 0 0, .int .i64 0, .bool false, .int .i64 0] 36)).alloc (.cells #[.int .i64 size, .slice none 0 0, .int .i64 lf, .bool dw, .int .i64 dn] 36)
  have Br := (Blk.new (w.alloc (.cells #[.int .i64 size, .slice A0 n c, .int .i64 lf, .bool dw, .int .i64 dn] 36)) #[.int .i64 0, .slice none 0 0, .int .i64 0, .bool false, .int .i64 0] 36).alloc (.cells #[.int .i64 size, .slice none 0 0, .int .i64 lf, .bool dw, .int .i64 dn] 36)
  have Bo := Blk.new ((w.alloc (.cells #[.int .i64 size, .slice A0 n c, .int .i64 lf, .bool dw, .int .i64 dn] 36)).alloc (.cells #[.int .i64 0, .slice none 0 0, .int .i64 0, .bool false, .int .i64 0] 36)) #[.int .i64 size, .slice none 0 0, .int .i64 lf, .bool dw, .int .i64 dn] 36
  have bS := (((Below.refl w.heap.size w).alloc (Nat.le_refl _) (.cells #[.int .i64 size, .slice A0 n c, .int .i64 lf, .bool dw, .int .i64 dn] 36)).alloc (by simp) (.cells #[.int .i64 0, .slice none 0 0, .int .i64 0, .bool false, .int .i64 0] 36)).alloc (by simp; omega) (.cells #[.int .i64 size, .slice none 0 0, .int .i64 lf, .bool dw, .int .i64 dn] 36)
  have hs0 : (((w.alloc (.cells #[.int .i64 size, .slice A0 n c, .int .i64 lf, .bool dw, .int .i64 dn] 36)).alloc (.cells #[.int .i64 0, .slice none 0 0, .int .i64 0, .bool false, .int .i64 0] 36)).alloc (.cells #[.int .i64 size, .slice none 0 0, .int .i64 lf, .bool dw, .int .i64 dn] 36)).heap.size = w.heap.size + 3 := by simp
  simp only [World.size_alloc] at Br Bo
  go_enter Tryd.func23, Tryd.ntmps23
  go_wp2_with fail
  generalize (((w.alloc (.cells #[.int .i64 size, .slice A0 n c, .int .i64 lf, .bool dw, .int .i64 dn] 36)).alloc (.cells #[.int .i64 0, .slice none 0 0, .int .i64 0, .bool false, .int .i64 0] 36)).alloc (.cells #[.int .i64 size, .slice none 0 0, .int .i64 lf, .bool dw, .int .i64 dn] 36)) = w0 at *
  go_loopg [4] n (fun g i wr => ∃ k : Nat, k + g = n ∧ i = .int .i64 (k : Int) ∧ ∃ (A : Option Addr) (c0 : Nat), Blk wr (w.heap.size + 2) #[.int .i64 size, .slice A k c0, .int .i64 lf, .bool dw, .int .i64 dn] 36 ∧ Blk wr w.heap.size #[.int .i64 size, .slice A0 n c, .int .i64 lf, .bool dw, .int .i64 dn] 36 ∧ Blk wr (w.heap.size + 1) #[.int .i64 0, .slice none 0 0, .int .i64 0, .bool false, .int .i64 0] 36 ∧ Zq (w.heap.size + 3) wr A k c0 (zs.take k) ∧ Below w.heap.size w wr ∧ w.heap.size + 3 ≤ wr.heap.size)
  case atStart => exact ⟨0, by omega, rfl, none, 0, Bo, Bd, Br, Zq.nil _ _, bS, Nat.le_of_eq hs0.symm⟩
  case round =>
    clear Bo Bd Br bS hs0
    obtain ⟨k, hk, rfl, A, c0, Bo, Bd, Br, Q, bS, hBw⟩ := hrel
    obtain ⟨p0, p1, p2, p3, p4, _⟩ := Bd.five
    by_cases hlt : (k : Int) < (n : Int)
    · obtain ⟨g, rfl⟩ : ∃ g, gk = g + 1 := ⟨gk - 1, by omega⟩
      obtain ⟨gb, o, z, Ai, ci, rfl, hF, hg, hz, c0', c1', c2', c3', hS, hA⟩ := h.at_ (show k < n by omega)
      have hzl := hsm.at_ hz
      have hk1 : Hid (zs.take (k + 1) = zs.take k ++ [z]) := by
        show _ = _
        rw [List.take_add_one, hz]; rfl
      replace hk : Hid _ := hk
      clear hz
      go_wp2_with fail
      clear p0 p1 p2 p3 p4
      refine wp_region_held_drew (S := fun w' => Below w.heap.size w w' ∧ Blk w' w.heap.size #[.int .i64 size, .slice (some ⟨gb, o, none⟩) n c, .int .i64 lf, .bool dw, .int .i64 dn] 36 ∧ Blk w' (w.heap.size + 1) #[.int .i64 0, .slice none 0 0, .int .i64 0, .bool false, .int .i64 0] 36) (by kernel_rfl) ⟨bS.drew, Bd, Br⟩ (fun hHeld => ?_)
      replace Bd := hHeld.2.1
      replace Br := hHeld.2.2
      replace bS := hHeld.1
      replace Bo : Blk wr.drew _ _ _ := Bo
      replace Q := Q.drew
      have hBw2 : w.heap.size + 3 ≤ wr.drew.heap.size := hBw
      clear hBw
      have hBw := hBw2
      clear hBw2
      generalize wr.drew = wd at *
      try simp only [Act.put, List.setIfInBounds_toArray, List.set_cons_zero, List.set_cons_succ]
      refine wpAnyH_take (i := 0) (v := ?_) (by simp only [List.getElem?_toArray, List.getElem?_cons_zero]; rfl) (by kernel_rfl) (by kernel_rfl) (by kernel_rfl) (by intro _ _ _ h; exact h) (Or.inl ⟨by rfl, ?_⟩) hHeld ?_
      rotate_left 1
      · intro wq hSw
        try dsimp only at hSw
        go_simp
        try (with_reducible rfl)
      try simp only [Act.put, List.setIfInBounds_toArray, List.set_cons_zero, List.set_cons_succ]
      refine wpAnyH_take (i := 2) (v := ?_) (by simp only [List.getElem?_toArray, List.getElem?_cons_succ, List.getElem?_cons_zero]; rfl) (by kernel_rfl) (by kernel_rfl) (by kernel_rfl) (by intro _ _ _ h; exact h) (Or.inl ⟨by rfl, ?_⟩) hHeld ?_
      rotate_left 1
      · intro wq hSw
        try dsimp only at hSw
        go_simp
        try (with_reducible rfl)
      try simp only [Act.put, List.setIfInBounds_toArray, List.set_cons_zero, List.set_cons_succ]
      refine wpAnyH_take (i := 3) (v := ?_) (by simp only [List.getElem?_toArray, List.getElem?_cons_succ, List.getElem?_cons_zero]; rfl) (by kernel_rfl) (by kernel_rfl) (by kernel_rfl) (by intro _ _ _ h; exact h) (Or.inl ⟨by rfl, ?_⟩) hHeld ?_
      rotate_left 1
      · intro wq hSw
        try dsimp only at hSw
        obtain ⟨x0, x1, x2, x3, x4, _⟩ := hSw.2.1.five
        go_simp
        try (with_reducible rfl)
      try simp only [Act.put, List.setIfInBounds_toArray, List.set_cons_zero, List.set_cons_succ]
      refine wpAnyH_take (i := 4) (v := ?_) (by simp only [List.getElem?_toArray, List.getElem?_cons_succ, List.getElem?_cons_zero]; rfl) (by kernel_rfl) (by kernel_rfl) (by kernel_rfl) (by intro _ _ _ h; exact h) (Or.inl ⟨by rfl, ?_⟩) hHeld ?_
      rotate_left 1
      · intro wq hSw
        try dsimp only at hSw
        go_simp
        try (with_reducible rfl)
      try simp only [Act.put, List.setIfInBounds_toArray, List.set_cons_zero, List.set_cons_succ]
      refine wpAnyH_take (i := 5) (v := ?_) (by simp only [List.getElem?_toArray, List.getElem?_cons_succ, List.getElem?_cons_zero]; rfl) (by kernel_rfl) (by kernel_rfl) (by kernel_rfl) (by intro _ _ _ h; exact h) (Or.inl ⟨by rfl, ?_⟩) hHeld ?_
      rotate_left 1
      · intro wq hSw
        try dsimp only at hSw
        go_simp
        try (with_reducible rfl)
      try simp only [Act.put, List.setIfInBounds_toArray, List.set_cons_zero, List.set_cons_succ]
      refine wpAnyH_take (i := 6) (v := ?_) (by simp only [List.getElem?_toArray, List.getElem?_cons_succ, List.getElem?_cons_zero]; rfl) (by kernel_rfl) (by kernel_rfl) (by kernel_rfl) (by intro _ _ _ h; exact h) (Or.inl ⟨by rfl, ?_⟩) hHeld ?_
      rotate_left 1
      · intro wq hSw
        try dsimp only at hSw
        have x0 := (hSw.1.cell hg).trans c0'
        have x1 := (hSw.1.cell hg).trans c1'
        have x2 := (hSw.1.cell hg).trans c2'
        have x3 := (hSw.1.cell hg).trans c3'
        go_simp
        try (with_reducible rfl)
      try simp only [Act.put, List.setIfInBounds_toArray, List.set_cons_zero, List.set_cons_succ]
      refine wpAnyH_ready (rs := [1, 7]) (by kernel_rfl) (by simp) ?_
      refine AllReadyH.cons (by simp only [List.getElem?_toArray, List.getElem?_cons_succ, List.getElem?_cons_zero]; rfl) (fun K hK => ?_) (AllReadyH.cons (by simp only [List.getElem?_toArray, List.getElem?_cons_succ, List.getElem?_cons_zero]; rfl) (fun K hK => ?_) AllReadyH.nil)
      · skip
        obtain ⟨x0, x1, x2, x3, x4, _⟩ := Bo.five
        go_simp
        clear x0 x1 x2 x3 x4
        refine hK.out _ _ ⟨bS, Bd, Br⟩ (fun hHeld => ?_)
        clear hK K
        try simp only [Act.put, List.setIfInBounds_toArray, List.set_cons_zero, List.set_cons_succ]
        refine wpAnyH_ready (rs := [7]) (by kernel_rfl) (by simp) ?_
        refine AllReadyH.cons (by simp only [List.getElem?_toArray, List.getElem?_cons_succ, List.getElem?_cons_zero]; rfl) (fun K hK => ?_) AllReadyH.nil
        have hC := refCopy3_any z.st z.rs z.la Ai z.l.length ci z.l wd (hS.below bS) (by omega)
        go_simp
        refine hC.mono ?_
        rintro e w_7_2 ⟨A2, n2, c2, rfl, N2, b2⟩
        go_wp2_with fail
        obtain rfl : z.l.length = n2 := N2.sl.len8
        replace Bo := Bo.under b2
        replace Bd := Bd.under b2
        replace Br := Br.under b2
        replace Q := Q.under b2
        replace bS := bS.trans (b2.mono bS.size)
        have NN := own_base N2 hBw
        replace hBw := Nat.le_trans hBw b2.size
        clear hC N2 b2
        refine hK.out _ _ ⟨bS, Bd, Br⟩ (fun hHeld => ?_)
        clear hK K
        try simp only [Act.put, List.setIfInBounds_toArray, List.set_cons_zero, List.set_cons_succ]
        refine wpAnyH_ready (rs := [8]) (by kernel_rfl) (by simp) ?_
        refine AllReadyH.cons (by simp only [List.getElem?_toArray, List.getElem?_cons_succ, List.getElem?_cons_zero]; rfl) (fun K hK => ?_) AllReadyH.nil
        go_simp
        have Bs := Blk.new w_7_2 #[.int .i64 z.st, .int .i64 z.rs, .slice A2 z.l.length c2, .int .i64 z.la] 56
        replace Bo := Bo.alloc (.cells #[.int .i64 z.st, .int .i64 z.rs, .slice A2 z.l.length c2, .int .i64 z.la] 56)
        replace Bd := Bd.alloc (.cells #[.int .i64 z.st, .int .i64 z.rs, .slice A2 z.l.length c2, .int .i64 z.la] 56)
        replace Br := Br.alloc (.cells #[.int .i64 z.st, .int .i64 z.rs, .slice A2 z.l.length c2, .int .i64 z.la] 56)
        replace Q := Q.alloc (.cells #[.int .i64 z.st, .int .i64 z.rs, .slice A2 z.l.length c2, .int .i64 z.la] 56)
        replace NN := World.ownsRow.alloc NN (.cells #[.int .i64 z.st, .int .i64 z.rs, .slice A2 z.l.length c2, .int .i64 z.la] 56)
        replace bS := bS.alloc bS.size (.cells #[.int .i64 z.st, .int .i64 z.rs, .slice A2 z.l.length c2, .int .i64 z.la] 56)
        have hBw2 : w.heap.size + 3 ≤ (w_7_2.alloc (.cells #[.int .i64 z.st, .int .i64 z.rs, .slice A2 z.l.length c2, .int .i64 z.la] 56)).heap.size := by simp; omega
        clear hBw
        have hBw := hBw2
        clear hBw2
        obtain ⟨ks, hks⟩ : ∃ k, w_7_2.heap.size = k := ⟨_, rfl⟩
        rw [hks] at Bs
        try simp only [hks]
        clear hks
        generalize w_7_2.alloc (.cells #[.int .i64 z.st, .int .i64 z.rs, .slice A2 z.l.length c2, .int .i64 z.la] 56) = w_8_3 at *
        refine hK.out _ _ ⟨bS, Bd, Br⟩ (fun hHeld => ?_)
        clear hK K
        try simp only [Act.put, List.setIfInBounds_toArray, List.set_cons_zero, List.set_cons_succ]
        refine wpAnyH_ready (rs := [9]) (by kernel_rfl) (by simp) ?_
        refine AllReadyH.cons (by simp only [List.getElem?_toArray, List.getElem?_cons_succ, List.getElem?_cons_zero]; rfl) (fun K hK => ?_) AllReadyH.nil
        obtain ⟨A3, c3, w_9_4, hr, Q3, hg⟩ := Q.app hBw (by omega) z NN Bs
        refine (if_pos (by rfl)).mpr (wp_app (Operand.tmp 22) (Operand.tmp 29) 34 rfl rfl rfl hr ?_)
        try simp only [Act.put, List.setIfInBounds_toArray, List.set_cons_zero, List.set_cons_succ]
        have hgo : ∀ b, (Value.slice A k c0).ownBlock = some b → w.heap.size + 3 ≤ b := Q.ge
        replace Bo := Bo.same (hg.block _ Bo.lt (fun e => by have := hgo _ e.symm; omega))
        replace Bd := Bd.same (hg.block _ Bd.lt (fun e => by have := hgo _ e.symm; omega))
        replace Br := Br.same (hg.block _ Br.lt (fun e => by have := hgo _ e.symm; omega))
        replace bS := bS.grown hg bS.size (fun b hb => by have := hgo b hb; omega)
        have hBw2 := Nat.le_trans hBw hg.size
        clear hBw hr hg hgo NN Bs Q
        have hBw := hBw2
        clear hBw2
        refine hK.out _ _ ⟨bS, Bd, Br⟩ (fun hHeld => ?_)
        clear hK K
        try simp only [Act.put, List.setIfInBounds_toArray, List.set_cons_zero, List.set_cons_succ]
        refine wpAnyH_take (i := 10) (v := ?_) (by simp only [List.getElem?_toArray, List.getElem?_cons_succ, List.getElem?_cons_zero]; rfl) (by kernel_rfl) (by kernel_rfl) (by kernel_rfl) (by intro _ _ _ h; exact h) (Or.inl ⟨by rfl, ?_⟩) hHeld ?_
        rotate_left 1
        · intro wq hSw
          try dsimp only at hSw
          go_simp
          try (with_reducible rfl)
        try simp only [Act.put, List.setIfInBounds_toArray, List.set_cons_zero, List.set_cons_succ]
        refine wpAnyH_ready (rs := [11]) (by kernel_rfl) (by simp) ?_
        refine AllReadyH.cons (by simp only [List.getElem?_toArray, List.getElem?_cons_succ, List.getElem?_cons_zero]; rfl) (fun K hK => ?_) AllReadyH.nil
        obtain ⟨x0, x1, x2, x3, x4, y0, y1, y2, y3, y4⟩ := Bo.five
        go_simp
        have Bo2 := Bo.set 1 (.slice A3 (k + 1) c3)
        simp only [List.setIfInBounds_toArray, List.set_cons_zero, List.set_cons_succ] at Bo2
        replace Bd := Bd.far (a := ⟨w.heap.size + 2, 1, none⟩) (by simp) (.slice A3 (k + 1) c3)
        replace Br := Br.far (a := ⟨w.heap.size + 2, 1, none⟩) (by simp) (.slice A3 (k + 1) c3)
        replace Q3 := Q3.far (a := ⟨w.heap.size + 2, 1, none⟩) (by simp) (.slice A3 (k + 1) c3)
        replace bS := bS.setCell (p := ⟨w.heap.size + 2, 1, none⟩) (by simp) (.slice A3 (k + 1) c3)
        clear x0 x1 x2 x3 x4 y0 y1 y2 y3 y4 Bo
        have hBw2 : w.heap.size + 3 ≤ (w_9_4.setCell ⟨w.heap.size + 2, 1, none⟩ (.slice A3 (k + 1) c3)).heap.size := by simpa [World.setCell] using hBw
        clear hBw
        have hBw := hBw2
        clear hBw2
        generalize w_9_4.setCell ⟨w.heap.size + 2, 1, none⟩ (.slice A3 (k + 1) c3) = w_11_5 at *
        refine hK.out _ _ ⟨bS, Bd, Br⟩ (fun hHeld => ?_)
        clear hK K
        try simp only [Act.put, List.setIfInBounds_toArray, List.set_cons_zero, List.set_cons_succ]
        refine wpAnyH_done (by kernel_rfl) ?_ _
        clear hHeld
        go_wp2
        go_roundg g
        case measure => omega
        case rel => exact ⟨k + 1, by have := hk.out; omega, by first | rfl | (simp; done), A3, c3, Bo2, Bd, Br, by rw [hk1.out]; exact Q3, bS, hBw⟩
      · skip
        have hC := refCopy3_any z.st z.rs z.la Ai z.l.length ci z.l wd (hS.below bS) (by omega)
        go_simp
        refine hC.mono ?_
        rintro e w_7_1 ⟨A2, n2, c2, rfl, N2, b2⟩
        go_wp2_with fail
        obtain rfl : z.l.length = n2 := N2.sl.len8
        replace Bo := Bo.under b2
        replace Bd := Bd.under b2
        replace Br := Br.under b2
        replace Q := Q.under b2
        replace bS := bS.trans (b2.mono bS.size)
        have NN := own_base N2 hBw
        replace hBw := Nat.le_trans hBw b2.size
        clear hC N2 b2
        refine hK.out _ _ ⟨bS, Bd, Br⟩ (fun hHeld => ?_)
        clear hK K
        try simp only [Act.put, List.setIfInBounds_toArray, List.set_cons_zero, List.set_cons_succ]
        refine wpAnyH_ready (rs := [1, 8]) (by kernel_rfl) (by simp) ?_
        refine AllReadyH.cons (by simp only [List.getElem?_toArray, List.getElem?_cons_succ, List.getElem?_cons_zero]; rfl) (fun K hK => ?_) (AllReadyH.cons (by simp only [List.getElem?_toArray, List.getElem?_cons_succ, List.getElem?_cons_zero]; rfl) (fun K hK => ?_) AllReadyH.nil)
        · skip
          obtain ⟨x0, x1, x2, x3, x4, _⟩ := Bo.five
          go_simp
          clear x0 x1 x2 x3 x4
          refine hK.out _ _ ⟨bS, Bd, Br⟩ (fun hHeld => ?_)
          clear hK K
          try simp only [Act.put, List.setIfInBounds_toArray, List.set_cons_zero, List.set_cons_succ]
          refine wpAnyH_ready (rs := [8]) (by kernel_rfl) (by simp) ?_
          refine AllReadyH.cons (by simp only [List.getElem?_toArray, List.getElem?_cons_succ, List.getElem?_cons_zero]; rfl) (fun K hK => ?_) AllReadyH.nil
          go_simp
          have Bs := Blk.new w_7_1 #[.int .i64 z.st, .int .i64 z.rs, .slice A2 z.l.length c2, .int .i64 z.la] 56
          replace Bo := Bo.alloc (.cells #[.int .i64 z.st, .int .i64 z.rs, .slice A2 z.l.length c2, .int .i64 z.la] 56)
          replace Bd := Bd.alloc (.cells #[.int .i64 z.st, .int .i64 z.rs, .slice A2 z.l.length c2, .int .i64 z.la] 56)
          replace Br := Br.alloc (.cells #[.int .i64 z.st, .int .i64 z.rs, .slice A2 z.l.length c2, .int .i64 z.la] 56)
          replace Q := Q.alloc (.cells #[.int .i64 z.st, .int .i64 z.rs, .slice A2 z.l.length c2, .int .i64 z.la] 56)
          replace NN := World.ownsRow.alloc NN (.cells #[.int .i64 z.st, .int .i64 z.rs, .slice A2 z.l.length c2, .int .i64 z.la] 56)
          replace bS := bS.alloc bS.size (.cells #[.int .i64 z.st, .int .i64 z.rs, .slice A2 z.l.length c2, .int .i64 z.la] 56)
          have hBw2 : w.heap.size + 3 ≤ (w_7_1.alloc (.cells #[.int .i64 z.st, .int .i64 z.rs, .slice A2 z.l.length c2, .int .i64 z.la] 56)).heap.size := by simp; omega
          clear hBw
          have hBw := hBw2
          clear hBw2
          obtain ⟨ks, hks⟩ : ∃ k, w_7_1.heap.size = k := ⟨_, rfl⟩
          rw [hks] at Bs
          try simp only [hks]
          clear hks
          generalize w_7_1.alloc (.cells #[.int .i64 z.st, .int .i64 z.rs, .slice A2 z.l.length c2, .int .i64 z.la] 56) = w_8_3 at *
          refine hK.out _ _ ⟨bS, Bd, Br⟩ (fun hHeld => ?_)
          clear hK K
          try simp only [Act.put, List.setIfInBounds_toArray, List.set_cons_zero, List.set_cons_succ]
          refine wpAnyH_ready (rs := [9]) (by kernel_rfl) (by simp) ?_
          refine AllReadyH.cons (by simp only [List.getElem?_toArray, List.getElem?_cons_succ, List.getElem?_cons_zero]; rfl) (fun K hK => ?_) AllReadyH.nil
          obtain ⟨A3, c3, w_9_4, hr, Q3, hg⟩ := Q.app hBw (by omega) z NN Bs
          refine (if_pos (by rfl)).mpr (wp_app (Operand.tmp 22) (Operand.tmp 29) 34 rfl rfl rfl hr ?_)
          try simp only [Act.put, List.setIfInBounds_toArray, List.set_cons_zero, List.set_cons_succ]
          have hgo : ∀ b, (Value.slice A k c0).ownBlock = some b → w.heap.size + 3 ≤ b := Q.ge
          replace Bo := Bo.same (hg.block _ Bo.lt (fun e => by have := hgo _ e.symm; omega))
          replace Bd := Bd.same (hg.block _ Bd.lt (fun e => by have := hgo _ e.symm; omega))
          replace Br := Br.same (hg.block _ Br.lt (fun e => by have := hgo _ e.symm; omega))
          replace bS := bS.grown hg bS.size (fun b hb => by have := hgo b hb; omega)
          have hBw2 := Nat.le_trans hBw hg.size
          clear hBw hr hg hgo NN Bs Q
          have hBw := hBw2
          clear hBw2
          refine hK.out _ _ ⟨bS, Bd, Br⟩ (fun hHeld => ?_)
          clear hK K
          try simp only [Act.put, List.setIfInBounds_toArray, List.set_cons_zero, List.set_cons_succ]
          refine wpAnyH_take (i := 10) (v := ?_) (by simp only [List.getElem?_toArray, List.getElem?_cons_succ, List.getElem?_cons_zero]; rfl) (by kernel_rfl) (by kernel_rfl) (by kernel_rfl) (by intro _ _ _ h; exact h) (Or.inl ⟨by rfl, ?_⟩) hHeld ?_
          rotate_left 1
          · intro wq hSw
            try dsimp only at hSw
            go_simp
            try (with_reducible rfl)
          try simp only [Act.put, List.setIfInBounds_toArray, List.set_cons_zero, List.set_cons_succ]
          refine wpAnyH_ready (rs := [11]) (by kernel_rfl) (by simp) ?_
          refine AllReadyH.cons (by simp only [List.getElem?_toArray, List.getElem?_cons_succ, List.getElem?_cons_zero]; rfl) (fun K hK => ?_) AllReadyH.nil
          obtain ⟨x0, x1, x2, x3, x4, y0, y1, y2, y3, y4⟩ := Bo.five
          go_simp
          have Bo2 := Bo.set 1 (.slice A3 (k + 1) c3)
          simp only [List.setIfInBounds_toArray, List.set_cons_zero, List.set_cons_succ] at Bo2
          replace Bd := Bd.far (a := ⟨w.heap.size + 2, 1, none⟩) (by simp) (.slice A3 (k + 1) c3)
          replace Br := Br.far (a := ⟨w.heap.size + 2, 1, none⟩) (by simp) (.slice A3 (k + 1) c3)
          replace Q3 := Q3.far (a := ⟨w.heap.size + 2, 1, none⟩) (by simp) (.slice A3 (k + 1) c3)
          replace bS := bS.setCell (p := ⟨w.heap.size + 2, 1, none⟩) (by simp) (.slice A3 (k + 1) c3)
          clear x0 x1 x2 x3 x4 y0 y1 y2 y3 y4 Bo
          have hBw2 : w.heap.size + 3 ≤ (w_9_4.setCell ⟨w.heap.size + 2, 1, none⟩ (.slice A3 (k + 1) c3)).heap.size := by simpa [World.setCell] using hBw
          clear hBw
          have hBw := hBw2
          clear hBw2
          generalize w_9_4.setCell ⟨w.heap.size + 2, 1, none⟩ (.slice A3 (k + 1) c3) = w_11_5 at *
          refine hK.out _ _ ⟨bS, Bd, Br⟩ (fun hHeld => ?_)
          clear hK K
          try simp only [Act.put, List.setIfInBounds_toArray, List.set_cons_zero, List.set_cons_succ]
          refine wpAnyH_done (by kernel_rfl) ?_ _
          clear hHeld
          go_wp2
          go_roundg g
          case measure => omega
          case rel => exact ⟨k + 1, by have := hk.out; omega, by first | rfl | (simp; done), A3, c3, Bo2, Bd, Br, by rw [hk1.out]; exact Q3, bS, hBw⟩
        · skip
          go_simp
          have Bs := Blk.new w_7_1 #[.int .i64 z.st, .int .i64 z.rs, .slice A2 z.l.length c2, .int .i64 z.la] 56
          replace Bo := Bo.alloc (.cells #[.int .i64 z.st, .int .i64 z.rs, .slice A2 z.l.length c2, .int .i64 z.la] 56)
          replace Bd := Bd.alloc (.cells #[.int .i64 z.st, .int .i64 z.rs, .slice A2 z.l.length c2, .int .i64 z.la] 56)
          replace Br := Br.alloc (.cells #[.int .i64 z.st, .int .i64 z.rs, .slice A2 z.l.length c2, .int .i64 z.la] 56)
          replace Q := Q.alloc (.cells #[.int .i64 z.st, .int .i64 z.rs, .slice A2 z.l.length c2, .int .i64 z.la] 56)
          replace NN := World.ownsRow.alloc NN (.cells #[.int .i64 z.st, .int .i64 z.rs, .slice A2 z.l.length c2, .int .i64 z.la] 56)
          replace bS := bS.alloc bS.size (.cells #[.int .i64 z.st, .int .i64 z.rs, .slice A2 z.l.length c2, .int .i64 z.la] 56)
          have hBw2 : w.heap.size + 3 ≤ (w_7_1.alloc (.cells #[.int .i64 z.st, .int .i64 z.rs, .slice A2 z.l.length c2, .int .i64 z.la] 56)).heap.size := by simp; omega
          clear hBw
          have hBw := hBw2
          clear hBw2
          obtain ⟨ks, hks⟩ : ∃ k, w_7_1.heap.size = k := ⟨_, rfl⟩
          rw [hks] at Bs
          try simp only [hks]
          clear hks
          generalize w_7_1.alloc (.cells #[.int .i64 z.st, .int .i64 z.rs, .slice A2 z.l.length c2, .int .i64 z.la] 56) = w_8_2 at *
          refine hK.out _ _ ⟨bS, Bd, Br⟩ (fun hHeld => ?_)
          clear hK K
          try simp only [Act.put, List.setIfInBounds_toArray, List.set_cons_zero, List.set_cons_succ]
          refine wpAnyH_ready (rs := [1]) (by kernel_rfl) (by simp) ?_
          refine AllReadyH.cons (by simp only [List.getElem?_toArray, List.getElem?_cons_succ, List.getElem?_cons_zero]; rfl) (fun K hK => ?_) AllReadyH.nil
          obtain ⟨x0, x1, x2, x3, x4, _⟩ := Bo.five
          go_simp
          clear x0 x1 x2 x3 x4
          refine hK.out _ _ ⟨bS, Bd, Br⟩ (fun hHeld => ?_)
          clear hK K
          try simp only [Act.put, List.setIfInBounds_toArray, List.set_cons_zero, List.set_cons_succ]
          refine wpAnyH_ready (rs := [9]) (by kernel_rfl) (by simp) ?_
          refine AllReadyH.cons (by simp only [List.getElem?_toArray, List.getElem?_cons_succ, List.getElem?_cons_zero]; rfl) (fun K hK => ?_) AllReadyH.nil
          obtain ⟨A3, c3, w_9_4, hr, Q3, hg⟩ := Q.app hBw (by omega) z NN Bs
          refine (if_pos (by rfl)).mpr (wp_app (Operand.tmp 22) (Operand.tmp 29) 34 rfl rfl rfl hr ?_)
          try simp only [Act.put, List.setIfInBounds_toArray, List.set_cons_zero, List.set_cons_succ]
          have hgo : ∀ b, (Value.slice A k c0).ownBlock = some b → w.heap.size + 3 ≤ b := Q.ge
          replace Bo := Bo.same (hg.block _ Bo.lt (fun e => by have := hgo _ e.symm; omega))
          replace Bd := Bd.same (hg.block _ Bd.lt (fun e => by have := hgo _ e.symm; omega))
          replace Br := Br.same (hg.block _ Br.lt (fun e => by have := hgo _ e.symm; omega))
          replace bS := bS.grown hg bS.size (fun b hb => by have := hgo b hb; omega)
          have hBw2 := Nat.le_trans hBw hg.size
          clear hBw hr hg hgo NN Bs Q
          have hBw := hBw2
          clear hBw2
          refine hK.out _ _ ⟨bS, Bd, Br⟩ (fun hHeld => ?_)
          clear hK K
          try simp only [Act.put, List.setIfInBounds_toArray, List.set_cons_zero, List.set_cons_succ]
          refine wpAnyH_take (i := 10) (v := ?_) (by simp only [List.getElem?_toArray, List.getElem?_cons_succ, List.getElem?_cons_zero]; rfl) (by kernel_rfl) (by kernel_rfl) (by kernel_rfl) (by intro _ _ _ h; exact h) (Or.inl ⟨by rfl, ?_⟩) hHeld ?_
          rotate_left 1
          · intro wq hSw
            try dsimp only at hSw
            go_simp
            try (with_reducible rfl)
          try simp only [Act.put, List.setIfInBounds_toArray, List.set_cons_zero, List.set_cons_succ]
          refine wpAnyH_ready (rs := [11]) (by kernel_rfl) (by simp) ?_
          refine AllReadyH.cons (by simp only [List.getElem?_toArray, List.getElem?_cons_succ, List.getElem?_cons_zero]; rfl) (fun K hK => ?_) AllReadyH.nil
          obtain ⟨x0, x1, x2, x3, x4, y0, y1, y2, y3, y4⟩ := Bo.five
          go_simp
          have Bo2 := Bo.set 1 (.slice A3 (k + 1) c3)
          simp only [List.setIfInBounds_toArray, List.set_cons_zero, List.set_cons_succ] at Bo2
          replace Bd := Bd.far (a := ⟨w.heap.size + 2, 1, none⟩) (by simp) (.slice A3 (k + 1) c3)
          replace Br := Br.far (a := ⟨w.heap.size + 2, 1, none⟩) (by simp) (.slice A3 (k + 1) c3)
          replace Q3 := Q3.far (a := ⟨w.heap.size + 2, 1, none⟩) (by simp) (.slice A3 (k + 1) c3)
          replace bS := bS.setCell (p := ⟨w.heap.size + 2, 1, none⟩) (by simp) (.slice A3 (k + 1) c3)
          clear x0 x1 x2 x3 x4 y0 y1 y2 y3 y4 Bo
          have hBw2 : w.heap.size + 3 ≤ (w_9_4.setCell ⟨w.heap.size + 2, 1, none⟩ (.slice A3 (k + 1) c3)).heap.size := by simpa [World.setCell] using hBw
          clear hBw
          have hBw := hBw2
          clear hBw2
          generalize w_9_4.setCell ⟨w.heap.size + 2, 1, none⟩ (.slice A3 (k + 1) c3) = w_11_5 at *
          refine hK.out _ _ ⟨bS, Bd, Br⟩ (fun hHeld => ?_)
          clear hK K
          try simp only [Act.put, List.setIfInBounds_toArray, List.set_cons_zero, List.set_cons_succ]
          refine wpAnyH_done (by kernel_rfl) ?_ _
          clear hHeld
          go_wp2
          go_roundg g
          case measure => omega
          case rel => exact ⟨k + 1, by have := hk.out; omega, by first | rfl | (simp; done), A3, c3, Bo2, Bd, Br, by rw [hk1.out]; exact Q3, bS, hBw⟩
    · obtain rfl : k = n := by omega
      have ht : zs.take k = zs := List.take_of_length_le (by omega)
      rw [ht] at Q
      clear ht hlt hk
      obtain ⟨x0, x1, x2, x3, x4, _⟩ := Bo.five
      obtain ⟨r0, r1, r2, r3, r4, y0, y1, y2, y3, y4⟩ := Br.five
      go_wp2
      try simp only [Exit.inBlock, Exit.then]
      have Q2 := ((((Q.far (a := ⟨w.heap.size + 1, 0, none⟩) (by simp) (.int .i64 size)).far (a := ⟨w.heap.size + 1, 1, none⟩) (by simp) (.slice A k c0)).far (a := ⟨w.heap.size + 1, 2, none⟩) (by simp) (.int .i64 lf)).far (a := ⟨w.heap.size + 1, 3, none⟩) (by simp) (.bool dw)).far (a := ⟨w.heap.size + 1, 4, none⟩) (by simp) (.int .i64 dn)
      refine ret_blk rfl rfl (((((Br.set 0 _).set 1 _).set 2 _).set 3 _).set 4 _) Tryd.underlying36 (by kernel_rfl) ⟨A, c0, rfl, Q2.toZs.imp (fun b _ hb => by omega), fun hn => ?_, ((((bS.setCell (by simp) _).setCell (by simp) _).setCell (by simp) _).setCell (by simp) _).setCell (by simp) _⟩
      obtain ⟨g, h1, h2, h3⟩ := Q2.toZr hn
      exact ⟨g, h1, h2, h3.imp (fun b _ hb => by omega)⟩
end Go.Proofs.YtnejiclghnigiaaDoor
namespace Go.Proofs.YtnejiclghnigiaaDoor
open Go.RowKit Go.Wag
set_option linter.unusedVariables false
set_option maxRecDepth 20000

theorem same_self4 (st rs la : Int) (l : List UInt8) : sameF st rs la l st rs la l = true := by simp [sameF]

set_option maxRecDepth 20000 in
set_option maxHeartbeats 2000000 in
theorem refSame4_eq {F F2 : Nat → Prop} (size lf dn : Int) (dw : Bool) (A : Option Addr) (n c : Nat) (A2 : Option Addr) (c2 : Nat) (zs : List Zp) (w : World) (h : Zs F w A n c zs) (h2 : Zs F2 w A2 n c2 zs) (hn : n ≤ 100) :
    Calls Tryd.prog 24 #[.agg #[.int .i64 size, .slice A n c, .int .i64 lf, .bool dw, .int .i64 dn], .agg #[.int .i64 size, .slice A2 n c2, .int .i64 lf, .bool dw, .int .i64 dn]] w fun e w' => e = .returned (.bool true) ∧ Below w.heap.size w w' := by
  have hcap := h.cap
  have hcap2 := h2.cap
  have Ba := (Blk.new w #[.int .i64 size, .slice A n c, .int .i64 lf, .bool dw, .int .i64 dn] 36).alloc (.cells #[.int .i64 size, .slice A2 n c2, .int .i64 lf, .bool dw, .int .i64 dn] 36)
  have Bb := Blk.new (w.alloc (.cells #[.int .i64 size, .slice A n c, .int .i64 lf, .bool dw, .int .i64 dn] 36)) #[.int .i64 size, .slice A2 n c2, .int .i64 lf, .bool dw, .int .i64 dn] 36
  have bb := ((Below.refl w.heap.size w).alloc (Nat.le_refl _) (.cells #[.int .i64 size, .slice A n c, .int .i64 lf, .bool dw, .int .i64 dn] 36)).alloc (by simp) (.cells #[.int .i64 size, .slice A2 n c2, .int .i64 lf, .bool dw, .int .i64 dn] 36)
  simp only [World.size_alloc] at Bb
  replace h := h.below bb
  replace h2 := h2.below bb
  go_enter Tryd.func24, Tryd.ntmps24
  go_wp2_with fail
  generalize ((w.alloc (.cells #[.int .i64 size, .slice A n c, .int .i64 lf, .bool dw, .int .i64 dn] 36)).alloc (.cells #[.int .i64 size, .slice A2 n c2, .int .i64 lf, .bool dw, .int .i64 dn] 36)) = w0 at *
  go_loopg [5] n (fun g i wr => ∃ k : Nat, k + g = n ∧ i = .int .i64 (k : Int) ∧ Below w0.heap.size w0 wr)
  case atStart => exact ⟨0, by omega, rfl, Below.refl _ _⟩
  case round =>
    obtain ⟨k, hk, rfl, br⟩ := hrel
    replace Ba := Ba.under br
    replace Bb := Bb.under br
    replace h := h.below br
    replace h2 := h2.below br
    replace bb := bb.trans (br.mono bb.size)
    obtain ⟨p0, p1, p2, p3, p4, _⟩ := Ba.five
    by_cases hlt : (k : Int) < (n : Int)
    · obtain ⟨g, rfl⟩ : ∃ g, gk = g + 1 := ⟨gk - 1, by omega⟩
      obtain ⟨gb, o, z, Ai, ci, rfl, _, hg, hz, c0, c1, c2', c3, hS, _⟩ := h.at_ (show k < n by omega)
      obtain ⟨gx, ox, zx, Ax, cx, rfl, _, hgx, hzx, e0, e1, e2, e3, hX, _⟩ := h2.at_ (show k < n by omega)
      obtain rfl : zx = z := Option.some.inj (hzx.symm.trans hz)
      replace hk : Hid _ := hk
      clear hz hzx
      go_wp2_with fail
      clear p0 p1 p2 p3 p4
      refine wp_region_held_drew (S := fun w' => Below wr.heap.size wr w') (by kernel_rfl) (Below.refl _ _).drew (fun hHeld => ?_)
      try dsimp only at hHeld
      have bd : Below wr.heap.size wr wr.drew := (Below.refl wr.heap.size wr).drew
      generalize wr.drew = wd at *
      try simp only [Act.put, List.setIfInBounds_toArray, List.set_cons_zero, List.set_cons_succ]
      refine wpAnyH_take (i := 0) (v := ?_) (by simp only [List.getElem?_toArray, List.getElem?_cons_zero]; rfl) (by kernel_rfl) (by kernel_rfl) (by kernel_rfl) (by intro _ _ _ h; exact h) (Or.inl ⟨by rfl, ?_⟩) hHeld ?_
      rotate_left 1
      · intro wq hSw
        try dsimp only at hSw
        go_simp
        try (with_reducible rfl)
      try simp only [Act.put, List.setIfInBounds_toArray, List.set_cons_zero, List.set_cons_succ]
      refine wpAnyH_take (i := 1) (v := ?_) (by simp only [List.getElem?_toArray, List.getElem?_cons_succ, List.getElem?_cons_zero]; rfl) (by kernel_rfl) (by kernel_rfl) (by kernel_rfl) (by intro _ _ _ h; exact h) (Or.inl ⟨by rfl, ?_⟩) hHeld ?_
      rotate_left 1
      · intro wq hSw
        try dsimp only at hSw
        obtain ⟨x0, x1, x2, x3, x4, _⟩ := (Ba.under hSw).five
        go_simp
        try (with_reducible rfl)
      try simp only [Act.put, List.setIfInBounds_toArray, List.set_cons_zero, List.set_cons_succ]
      refine wpAnyH_take (i := 2) (v := ?_) (by simp only [List.getElem?_toArray, List.getElem?_cons_succ, List.getElem?_cons_zero]; rfl) (by kernel_rfl) (by kernel_rfl) (by kernel_rfl) (by intro _ _ _ h; exact h) (Or.inl ⟨by rfl, ?_⟩) hHeld ?_
      rotate_left 1
      · intro wq hSw
        try dsimp only at hSw
        go_simp
        try (with_reducible rfl)
      try simp only [Act.put, List.setIfInBounds_toArray, List.set_cons_zero, List.set_cons_succ]
      refine wpAnyH_take (i := 3) (v := ?_) (by simp only [List.getElem?_toArray, List.getElem?_cons_succ, List.getElem?_cons_zero]; rfl) (by kernel_rfl) (by kernel_rfl) (by kernel_rfl) (by intro _ _ _ h; exact h) (Or.inl ⟨by rfl, ?_⟩) hHeld ?_
      rotate_left 1
      · intro wq hSw
        try dsimp only at hSw
        go_simp
        try (with_reducible rfl)
      try simp only [Act.put, List.setIfInBounds_toArray, List.set_cons_zero, List.set_cons_succ]
      refine wpAnyH_take (i := 4) (v := ?_) (by simp only [List.getElem?_toArray, List.getElem?_cons_succ, List.getElem?_cons_zero]; rfl) (by kernel_rfl) (by kernel_rfl) (by kernel_rfl) (by intro _ _ _ h; exact h) (Or.inl ⟨by rfl, ?_⟩) hHeld ?_
      rotate_left 1
      · intro wq hSw
        try dsimp only at hSw
        have y0 := (hSw.cell hg).trans c0
        have y1 := (hSw.cell hg).trans c1
        have y2 := (hSw.cell hg).trans c2'
        have y3 := (hSw.cell hg).trans c3
        go_simp
        try (with_reducible rfl)
      try simp only [Act.put, List.setIfInBounds_toArray, List.set_cons_zero, List.set_cons_succ]
      refine wpAnyH_take (i := 5) (v := ?_) (by simp only [List.getElem?_toArray, List.getElem?_cons_succ, List.getElem?_cons_zero]; rfl) (by kernel_rfl) (by kernel_rfl) (by kernel_rfl) (by intro _ _ _ h; exact h) (Or.inl ⟨by rfl, ?_⟩) hHeld ?_
      rotate_left 1
      · intro wq hSw
        try dsimp only at hSw
        go_simp
        try (with_reducible rfl)
      try simp only [Act.put, List.setIfInBounds_toArray, List.set_cons_zero, List.set_cons_succ]
      refine wpAnyH_take (i := 6) (v := ?_) (by simp only [List.getElem?_toArray, List.getElem?_cons_succ, List.getElem?_cons_zero]; rfl) (by kernel_rfl) (by kernel_rfl) (by kernel_rfl) (by intro _ _ _ h; exact h) (Or.inl ⟨by rfl, ?_⟩) hHeld ?_
      rotate_left 1
      · intro wq hSw
        try dsimp only at hSw
        obtain ⟨x0, x1, x2, x3, x4, _⟩ := (Bb.under hSw).five
        go_simp
        try (with_reducible rfl)
      try simp only [Act.put, List.setIfInBounds_toArray, List.set_cons_zero, List.set_cons_succ]
      refine wpAnyH_take (i := 7) (v := ?_) (by simp only [List.getElem?_toArray, List.getElem?_cons_succ, List.getElem?_cons_zero]; rfl) (by kernel_rfl) (by kernel_rfl) (by kernel_rfl) (by intro _ _ _ h; exact h) (Or.inl ⟨by rfl, ?_⟩) hHeld ?_
      rotate_left 1
      · intro wq hSw
        try dsimp only at hSw
        go_simp
        try (with_reducible rfl)
      try simp only [Act.put, List.setIfInBounds_toArray, List.set_cons_zero, List.set_cons_succ]
      refine wpAnyH_take (i := 8) (v := ?_) (by simp only [List.getElem?_toArray, List.getElem?_cons_succ, List.getElem?_cons_zero]; rfl) (by kernel_rfl) (by kernel_rfl) (by kernel_rfl) (by intro _ _ _ h; exact h) (Or.inl ⟨by rfl, ?_⟩) hHeld ?_
      rotate_left 1
      · intro wq hSw
        try dsimp only at hSw
        go_simp
        try (with_reducible rfl)
      try simp only [Act.put, List.setIfInBounds_toArray, List.set_cons_zero, List.set_cons_succ]
      refine wpAnyH_take (i := 9) (v := ?_) (by simp only [List.getElem?_toArray, List.getElem?_cons_succ, List.getElem?_cons_zero]; rfl) (by kernel_rfl) (by kernel_rfl) (by kernel_rfl) (by intro _ _ _ h; exact h) (Or.inl ⟨by rfl, ?_⟩) hHeld ?_
      rotate_left 1
      · intro wq hSw
        try dsimp only at hSw
        have y0 := (hSw.cell hgx).trans e0
        have y1 := (hSw.cell hgx).trans e1
        have y2 := (hSw.cell hgx).trans e2
        have y3 := (hSw.cell hgx).trans e3
        go_simp
        try (with_reducible rfl)
      try simp only [Act.put, List.setIfInBounds_toArray, List.set_cons_zero, List.set_cons_succ]
      refine wpAnyH_ready (rs := [10]) (by kernel_rfl) (by simp) ?_
      refine AllReadyH.cons (by simp only [List.getElem?_toArray, List.getElem?_cons_succ, List.getElem?_cons_zero]; rfl) (fun K hK => ?_) AllReadyH.nil
      have hC := zSame_any zx.st zx.rs zx.la Ai zx.l.length ci zx.l zx.st zx.rs zx.la Ax zx.l.length cx zx.l wd (hS.below bd) (hX.below bd)
      rw [same_self4] at hC
      go_simp
      refine hC.mono ?_
      clear hC
      rintro e w5 ⟨rfl, b5⟩
      go_wp2_with fail
      refine hK.out _ _ (bd.trans (b5.mono bd.size)) (fun hHeld => ?_)
      clear hK K
      try dsimp only at hHeld
      try simp only [Act.put, List.setIfInBounds_toArray, List.set_cons_zero, List.set_cons_succ]
      refine wpAnyH_take (i := 11) (v := ?_) (by simp only [List.getElem?_toArray, List.getElem?_cons_succ, List.getElem?_cons_zero]; rfl) (by kernel_rfl) (by kernel_rfl) (by kernel_rfl) (by intro _ _ _ h; exact h) (Or.inl ⟨by rfl, ?_⟩) hHeld ?_
      rotate_left 1
      · intro wq hSw
        try dsimp only at hSw
        go_simp
        try (with_reducible rfl)
      try simp only [Act.put, List.setIfInBounds_toArray, List.set_cons_zero, List.set_cons_succ]
      refine wpAnyH_done (by kernel_rfl) ?_ _
      go_wp2
      go_roundg g
      case measure => omega
      case rel => exact ⟨k + 1, by have := hk.out; omega, by first | rfl | (simp; done), br.trans (hHeld.mono br.size)⟩
    · go_wp2
      go_ret
      exact ⟨rfl, bb⟩
end Go.Proofs.YtnejiclghnigiaaDoor
namespace Go.Proofs.YtnejiclghnigiaaDoor
open Go.RowKit Go.Wag
set_option linter.unusedVariables false
set_option maxRecDepth 20000

theorem do_go {size : Int} {d : Dp} (hd : devF size d.zs = true) (hl : d.lf = -1) (hw : d.dw = false) (c : Rp) : doE size d c = cmdEr size d.zs c.k c.s c.l ∧ (doS size d c).zs = cmdZs size d.zs c.k c.s c.l ∧ (doS size d c).lf = -1 ∧ (doS size d c).dw = false := by
  refine ⟨?_, ?_, ?_, ?_⟩
  · simp [doE, ruEr, hd, hl, hw, upF]
  · simp [doS, ruZs, goF, hd, hl, hw, upF]
  · simp [doS, ruLf, goF, hd, hl, hw, upF]
  · simp [doS, ruDw, hd, hl, hw, upF]
theorem app_at {size : Int} {zs : List Zp} {k : Nat} {z : Zp} {b : List UInt8} (hd : devF size zs = true) (hz : zs[k]? = some z) (hb : 1 ≤ (b.length : Int)) (h : (z.st = 1 ∧ (b.length : Int) ≤ roomF z.st z.rs z.l.length z.la size) ∨ (z.st = 0 ∧ openF zs < 3 ∧ (b.length : Int) ≤ size)) :
    cmdEr size zs 1 (k : Int) b = 0 ∧ ∃ z', cmdZs size zs 1 (k : Int) b = zs.set k z' ∧ z'.l = z.l ++ b := by
  have hk : k < zs.length := (List.getElem?_eq_some_iff.1 hz).1
  have hN : 0 ≤ (k : Int) ∧ (k : Int) < zs.length := by omega
  have hz2 : zs[(k : Int).toNat]? = some z := by simpa using hz
  have hchk : chkF z.st z.rs z.l.length z.la size = true := (dev_parts.1 hd).2 z (List.mem_of_getElem? hz)
  have hno : apNo (openF zs) z = false := by
    rcases h with ⟨h1, _⟩ | ⟨h1, h2, _⟩
    · simp [apNo, h1]
    · simp [apNo, h1]
      omega
  have her : appErrF z.st z.rs z.l.length z.la size b.length = 0 := by
    have hroom : (b.length : Int) ≤ roomF z.st z.rs z.l.length z.la size := by
      rcases h with ⟨_, h2⟩ | ⟨h1, _, h3⟩
      · exact h2
      · have := (chk_all hchk).2.2.2.2.2.2.2.2.2.1 h1
        rw [roomF, if_pos ⟨hchk, by omega⟩]
        omega
    rw [appErrF, if_pos ⟨hchk, by omega⟩, if_pos hroom]
  have hE : apE size (openF zs) b z = 0 := by
    rw [apE, hno]
    simpa using her
  obtain ⟨h1, h2⟩ := chg_yes (apH size (openF zs) b) (apE size (openF zs) b) hN hz2
  refine ⟨?_, apH size (openF zs) b z, ?_, ?_⟩
  · rw [cmdEr, if_pos rfl, h2, hE]
  · rw [cmdZs, if_pos rfl, h1, if_pos hE]
    simp
  · rw [apH, hno]
    simp [appDa, her]

/-- A device whose zones are records. -/
structure Lg (size : Int) (d : Dp) (rss : List (List Rp)) : Prop where
  dev : devF size d.zs = true
  op : openF d.zs ≤ 3
  lf : d.lf = -1
  dw : d.dw = false
  data : d.zs.map Zp.l = rss.map allB
  ok : ∀ rs ∈ rss, ∀ r ∈ rs, r.ok = true
theorem rec_ok_of {size : Int} {zs : List Zp} {r : Rp} (h : pnEr size zs r = 0) : r.ok = true ∧ plEr size zs ((recB r).length : Int) = 0 := by
  cases hk : r.ok with
  | true =>
    rw [pnEr, if_pos hk] at h
    exact ⟨rfl, h⟩
  | false =>
    rw [pnEr, if_neg (by rw [hk]; decide)] at h
    omega
theorem set_data {zs : List Zp} {rss : List (List Rp)} {k : Nat} {z z' : Zp} {r : Rp} (hd : zs.map Zp.l = rss.map allB) (hz : zs[k]? = some z) (h' : z'.l = z.l ++ recB r) : ∃ rs, rss[k]? = some rs ∧ z.l = allB rs ∧ (zs.set k z').map Zp.l = (rss.set k (rs ++ [r])).map allB := by
  have h1 : (rss.map allB)[k]? = some z.l := by rw [← hd, List.getElem?_map, hz]; rfl
  rw [List.getElem?_map, Option.map_eq_some_iff] at h1
  obtain ⟨rs, h2, h3⟩ := h1
  refine ⟨rs, h2, h3.symm, ?_⟩
  rw [List.map_set, List.map_set, hd, allB_snoc, h', h3]
theorem ap_one {size : Int} {d : Dp} {rss : List (List Rp)} {r : Rp} (h : Lg size d rss) (he : pnEr size d.zs r = 0) : ∃ (d' : Dp) (k : Nat) (rs : List Rp), doAll size d (pnCs size d.zs r) = (d', 0) ∧ pnZn size d.zs r = (k : Int) ∧ rss[k]? = some rs ∧ zlen d.zs (k : Int) = ((allB rs).length : Int) ∧ Lg size d' (rss.set k (rs ++ [r])) := by
  obtain ⟨hok, hpl⟩ := rec_ok_of he
  obtain ⟨b, hb⟩ : ∃ b, recB r = b := ⟨_, rfl⟩
  have hbl : 1 ≤ (b.length : Int) := by rw [← hb, recB_length]; omega
  have hpl0 := hpl
  rw [hb] at hpl
  rw [plEr] at hpl
  split at hpl
  case isFalse => omega
  rename_i hcond
  obtain ⟨_, hm1, hm2⟩ := hcond
  have fin : ∀ (dd : Dp) (k : Nat) (z : Zp), devF size dd.zs = true → openF dd.zs ≤ 3 → dd.lf = -1 → dd.dw = false → dd.zs.map Zp.l = rss.map allB → dd.zs[k]? = some z → ((z.st = 1 ∧ (b.length : Int) ≤ roomF z.st z.rs z.l.length z.la size) ∨ (z.st = 0 ∧ openF dd.zs < 3 ∧ (b.length : Int) ≤ size)) →
      ∃ d' rs, doAll size dd [⟨1, (k : Int), b⟩] = (d', 0) ∧ rss[k]? = some rs ∧ z.l = allB rs ∧ Lg size d' (rss.set k (rs ++ [r])) := by
    intro dd k z h1 h2 h3 h4 h5 hz hc
    obtain ⟨e1, z', e2, e3⟩ := app_at h1 hz hbl hc
    obtain ⟨g1, g2, g3, g4⟩ := do_go h1 h3 h4 ⟨1, (k : Int), b⟩
    obtain ⟨rs, r1, r2, r3⟩ := set_data (r := r) h5 hz (by rw [e3, hb])
    have hk2 := ok_ru (size := size) dd.lf dd.dw 1 (k : Int) b h1 h2
    refine ⟨doS size dd ⟨1, (k : Int), b⟩, rs, ?_, r1, r2, ⟨hk2.1, hk2.2, g3, g4, ?_, ?_⟩⟩
    · rw [doAll, g1, if_pos e1, doAll]
    · rw [g2]
      simp only
      rw [e2, r3]
    · intro x hx y hy
      rcases List.mem_or_eq_of_mem_set hx with hx | rfl
      · exact h.ok x hx y hy
      · rcases List.mem_append.1 hy with hy | hy
        · exact h.ok rs (List.mem_of_getElem? r1) y hy
        · simp only [List.mem_singleton] at hy
          subst hy
          exact hok
  by_cases hi : 0 ≤ idxF (roomy size b.length) d.zs
  · rcases idx_cases (roomy size b.length) d.zs with ⟨h2, _⟩ | ⟨k, z, h2, h3, h4, h5, _⟩
    · omega
    · simp only [roomy, isO, Bool.and_eq_true, decide_eq_true_eq] at h5
      obtain ⟨d', rs, f1, f2, f3, f4⟩ := fin d k z h.dev h.op h.lf h.dw h.data h4 (.inl h5)
      have hz : pnZn size d.zs r = (k : Int) := by rw [pnZn, plZn, if_pos hpl0, hb, if_pos hi, h2]
      refine ⟨d', k, rs, ?_, hz, f2, by rw [zlen_at h4, f3], f4⟩
      rw [pnCs, plCs, if_pos hpl0, hb, if_pos hi, hz]
      exact f1
  · rw [if_neg hi] at hpl
    rcases idx_cases isE d.zs with ⟨h2, _⟩ | ⟨k, z, h2, h3, h4, h5, _⟩
    · rw [if_pos (by omega)] at hpl
      omega
    · simp only [isE, decide_eq_true_eq] at h5
      have hz : pnZn size d.zs r = (k : Int) := by rw [pnZn, plZn, if_pos hpl0, hb, if_neg hi, h2]
      by_cases ho : openF d.zs < 3
      · obtain ⟨d', rs, f1, f2, f3, f4⟩ := fin d k z h.dev h.op h.lf h.dw h.data h4 (.inr ⟨h5, ho, hm2⟩)
        refine ⟨d', k, rs, ?_, hz, f2, by rw [zlen_at h4, f3], f4⟩
        rw [pnCs, plCs, if_pos hpl0, hb, if_neg hi, if_pos ho, hz]
        exact f1
      · rcases idx_cases isO d.zs with ⟨_, hall⟩ | ⟨j, y, h6, h7, h8, h9, _⟩
        · exfalso
          have : openF d.zs = 0 := by
            rw [openF, List.countP_eq_zero]
            intro x hx
            have := hall x hx
            simpa [isO] using this
          omega
        · simp only [isO, decide_eq_true_eq] at h9
          have hjk : j ≠ k := fun e => by
            subst e
            rw [h4] at h8
            cases h8
            omega
          obtain ⟨g1, g2, g3, g4⟩ := do_go h.dev h.lf h.dw ⟨3, (j : Int), []⟩
          have hN : 0 ≤ (j : Int) ∧ (j : Int) < d.zs.length := by omega
          obtain ⟨c1, c2⟩ := chg_yes (N := (j : Int)) fiH fiE hN (by simpa using h8)
          have hfe : fiE y = 0 := by simp [fiE, finEr, h9]
          have e1 : cmdEr size d.zs 3 (j : Int) [] = 0 := by
            simp only [cmdEr, show ¬ ((3 : Int) = 1) by decide, show ¬ ((3 : Int) = 2) by decide, if_false, if_true, c2, hfe]
          have e2 : cmdZs size d.zs 3 (j : Int) [] = d.zs.set j (fiH y) := by
            simp only [cmdZs, show ¬ ((3 : Int) = 1) by decide, show ¬ ((3 : Int) = 2) by decide, if_false, if_true, c1, hfe]
            simp
          have hk2 := ok_ru (size := size) d.lf d.dw 3 (j : Int) [] h.dev h.op
          have hos := open_set (z' := fiH y) h8
          have hfs : (fiH y).st = 3 := by simp [fiH, finSt, h9]
          rw [if_pos h9, if_neg (by rw [hfs]; decide)] at hos
          have g2' : (doS size d ⟨3, (j : Int), []⟩).zs = d.zs.set j (fiH y) := g2.trans e2
          have hop := h.op
          obtain ⟨d', rs, f1, f2, f3, f4⟩ := fin (doS size d ⟨3, (j : Int), []⟩) k z hk2.1 hk2.2 g3 g4 (by rw [g2', List.map_set, show (fiH y).l = y.l from rfl, ← h.data]; exact List.ext_getElem? (fun i => by
              rw [List.getElem?_set]
              split
              · rename_i e
                subst e
                rw [List.getElem?_map, h8]
                simp
                omega
              · rfl)) (by rw [g2', List.getElem?_set_ne hjk]; exact h4) (.inr ⟨h5, by rw [g2']; omega, hm2⟩)
          refine ⟨d', k, rs, ?_, hz, f2, by rw [zlen_at h4, f3], f4⟩
          have hjI : idxF isO d.zs = (j : Int) := h6
          rw [pnCs, plCs, if_pos hpl0, hb, if_neg hi, if_neg ho, hz, hjI, List.cons_append, List.nil_append, doAll, g1]
          simp only
          rw [if_pos e1]
          exact f1
end Go.Proofs.YtnejiclghnigiaaDoor
