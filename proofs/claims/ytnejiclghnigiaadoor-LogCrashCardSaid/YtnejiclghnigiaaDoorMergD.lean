/-
  Texts that the walks lean on, one behind the other: Log4, Log5, Log6, LogAwake0, LogAwake, LogPure, LogPure2, LogPure3, LogCrash0, LogFull0, CrcLaid, Leaf.
-/
import Derived.MapKept
import Derived.Carry
import Derived.ProofKit
import Derived.LaidMore
import Derived.Stop.Joined
import Derived.Lib.LaidTab
import Derived.Test.YtnejiclghnigiaaDoorMergC
namespace Go.Proofs.YtnejiclghnigiaaDoor
open Go.RowKit Go.Wag
set_option linter.unusedVariables false
set_option maxRecDepth 20000

/-- A record that was found, as data. -/
structure Fp where
  r : Rp
  zn : Int
  at_ : Int
/-- Found records as elements of a slice. -/
def fndE : Elt Fp where
  k := 5
  rd F w vs x := ∃ A c, vs = [.int .i64 x.r.k, .int .i64 x.r.s, .slice A x.r.l.length c, .int .i64 x.zn, .int .i64 x.at_] ∧ Sl w A x.r.l.length c (x.r.l.map v8) ∧ (0 < x.r.l.length → ∀ ad, A = some ad → F ad.block)
  pos := by decide
  len := fun ⟨A, c, h, _⟩ => by rw [h]; rfl
  keep := fun ⟨A, c, h, hS, hA⟩ hs hk => ⟨A, c, h, ⟨hS.len, hS.cap, hS.big, fun hn => by
    obtain ⟨ad, e, hb, hc⟩ := hS.cells hn
    exact ⟨ad, e, Nat.lt_of_lt_of_le hb hs, fun j u hu => (hk _ (by rw [add_block]; exact hb) (by rw [add_block]; exact hA hn ad e)).trans (hc j u hu)⟩⟩, hA⟩
  imp := fun ⟨A, c, h, hS, hA⟩ hF => ⟨A, c, h, hS, fun hn ad e => by
    obtain ⟨ad', e', hb, _⟩ := hS.cells hn
    cases e.symm.trans e'
    exact hF _ hb (hA hn ad e)⟩
abbrev seqK (x : Fp) : Int := x.r.s
/-- Found record i of a slice. -/
theorem Rs.fnd_at {F : Nat → Prop} {w : World} {A : Option Addr} {n c : Nat} {xs : List Fp} (h : Rs fndE F w A n c xs) {i : Nat} (hi : i < n) : ∃ g o x Ai ci, A = some ⟨g, o, none⟩ ∧ F g ∧ g < w.heap.size ∧ xs[i]? = some x ∧
    w.cell? ⟨g, o + i * 5, none⟩ = some (.int .i64 x.r.k) ∧ w.cell? ⟨g, o + i * 5 + 1, none⟩ = some (.int .i64 x.r.s) ∧ w.cell? ⟨g, o + i * 5 + 2, none⟩ = some (.slice Ai x.r.l.length ci) ∧ w.cell? ⟨g, o + i * 5 + 3, none⟩ = some (.int .i64 x.zn) ∧ w.cell? ⟨g, o + i * 5 + 4, none⟩ = some (.int .i64 x.at_) ∧ Sl w Ai x.r.l.length ci (x.r.l.map v8) ∧ (0 < x.r.l.length → ∀ ad, Ai = some ad → F ad.block) := by
  obtain ⟨g, o, x, vs, e, hF, hg, hr, ⟨Ai, ci, rfl, hS, hA⟩, hc⟩ := h.at_ hi
  exact ⟨g, o, x, Ai, ci, e, hF, hg, hr, hc 0 _ rfl, hc 1 _ rfl, hc 2 _ rfl, hc 3 _ rfl, hc 4 _ rfl, hS, hA⟩
theorem Ro.fnd_at {F : Nat → Prop} {t : TypeId} {w : World} {g : Nat} {xs : List Fp} (h : Ro fndE F t w g xs) {i : Nat} {x : Fp} (hi : xs[i]? = some x) : ∃ Ai ci, fndE.rd (fun b => F b ∧ b ≠ g) w [.int .i64 x.r.k, .int .i64 x.r.s, .slice Ai x.r.l.length ci, .int .i64 x.zn, .int .i64 x.at_] x ∧
    w.cell? ⟨g, i * 5, none⟩ = some (.int .i64 x.r.k) ∧ w.cell? ⟨g, i * 5 + 1, none⟩ = some (.int .i64 x.r.s) ∧ w.cell? ⟨g, i * 5 + 2, none⟩ = some (.slice Ai x.r.l.length ci) ∧ w.cell? ⟨g, i * 5 + 3, none⟩ = some (.int .i64 x.zn) ∧ w.cell? ⟨g, i * 5 + 4, none⟩ = some (.int .i64 x.at_) := by
  obtain ⟨vs, hr, hc⟩ := h.at_ i x hi
  obtain ⟨Ai, ci, rfl, hS, hA⟩ := hr
  exact ⟨Ai, ci, ⟨Ai, ci, rfl, hS, hA⟩, hc 0 _ rfl, hc 1 _ rfl, hc 2 _ rfl, hc 3 _ rfl, hc 4 _ rfl⟩

theorem wrapi64 {x : Int} (h0 : -9223372036854775808 ≤ x) (h1 : x < 9223372036854775808) : IntKind.i64.wrap x = x := by
  rw [IntKind.wrap_i64]
  omega
def cmpI (a b : Int) : Int := if a < b then -1 else if b < a then 1 else 0
theorem gNaN_any (a : Int) (w : World) : Calls Tryd.prog 57 #[.int .i64 a] w fun e w' => e = .returned (.bool false) ∧ Below w.heap.size w w' := by
  go_enter Tryd.func57, Tryd.ntmps57
  go_wp2
  go_ret
  go_tidy
  exact ⟨by simp, Below.refl _ _⟩
theorem gCompare_any (a b : Int) (w : World) : Calls Tryd.prog 37 #[.int .i64 a, .int .i64 b] w fun e w' => e = .returned (.int .i64 (cmpI a b)) ∧ Below w.heap.size w w' := by
  obtain ⟨d, hd⟩ : ∃ x, Hid (x = cmpI a b) := ⟨_, rfl⟩
  rw [← hd.out]
  go_enter Tryd.func37, Tryd.ntmps37
  go_wp2_with fail
  refine (gNaN_any a w).mono ?_
  rintro e w1 ⟨rfl, b1⟩
  go_wp2_with fail
  refine (gNaN_any b w1).mono ?_
  rintro e w2 ⟨rfl, b2⟩
  replace b1 := b1.trans (b2.mono b1.size)
  by_cases h1 : a < b
  · have e1 : d = -1 := by rw [hd.out, cmpI, if_pos h1]
    subst e1
    clear hd
    go_wp2
    go_ret
    exact ⟨rfl, b1⟩
  · by_cases h2 : b < a
    · have e1 : d = 1 := by rw [hd.out, cmpI, if_neg h1, if_pos h2]
      subst e1
      clear hd
      go_wp2
      go_ret
      exact ⟨rfl, b1⟩
    · have e1 : d = 0 := by rw [hd.out, cmpI, if_neg h1, if_neg h2]
      subst e1
      clear hd
      go_wp2
      go_ret
      exact ⟨rfl, b1⟩

set_option maxHeartbeats 1000000 in
theorem gAll1_any (x y : Fp) (A1 A2 : Option Addr) (c1 c2 : Nat) (w : World) : Calls Tryd.prog 36 #[.agg #[.int .i64 x.r.k, .int .i64 x.r.s, .slice A1 x.r.l.length c1, .int .i64 x.zn, .int .i64 x.at_], .agg #[.int .i64 y.r.k, .int .i64 y.r.s, .slice A2 y.r.l.length c2, .int .i64 y.zn, .int .i64 y.at_]] w fun e w' => e = .returned (.int .i64 (cmpI x.r.s y.r.s)) ∧ Below w.heap.size w w' := by
  have a0 := ((Below.refl w.heap.size w).alloc (Nat.le_refl _) (.cells #[.int .i64 x.r.k, .int .i64 x.r.s, .slice A1 x.r.l.length c1, .int .i64 x.zn, .int .i64 x.at_] 28)).alloc (by simp) (.cells #[.int .i64 y.r.k, .int .i64 y.r.s, .slice A2 y.r.l.length c2, .int .i64 y.zn, .int .i64 y.at_] 28)
  have B0 := (Blk.new w #[.int .i64 x.r.k, .int .i64 x.r.s, .slice A1 x.r.l.length c1, .int .i64 x.zn, .int .i64 x.at_] 28).alloc (.cells #[.int .i64 y.r.k, .int .i64 y.r.s, .slice A2 y.r.l.length c2, .int .i64 y.zn, .int .i64 y.at_] 28)
  have B1 := Blk.new (w.alloc (.cells #[.int .i64 x.r.k, .int .i64 x.r.s, .slice A1 x.r.l.length c1, .int .i64 x.zn, .int .i64 x.at_] 28)) #[.int .i64 y.r.k, .int .i64 y.r.s, .slice A2 y.r.l.length c2, .int .i64 y.zn, .int .i64 y.at_] 28
  simp only [World.size_alloc] at B1
  obtain ⟨p0, p1, p2, p3, p4, _⟩ := B0.five
  obtain ⟨q0, q1, q2, q3, q4, _⟩ := B1.five
  go_enter Tryd.func36, Tryd.ntmps36
  go_wp2_with fail
  generalize ((w.alloc (.cells #[.int .i64 x.r.k, .int .i64 x.r.s, .slice A1 x.r.l.length c1, .int .i64 x.zn, .int .i64 x.at_] 28)).alloc (.cells #[.int .i64 y.r.k, .int .i64 y.r.s, .slice A2 y.r.l.length c2, .int .i64 y.zn, .int .i64 y.at_] 28)) = w0 at *
  refine (gCompare_any x.r.s y.r.s w0).mono ?_
  rintro e w1 ⟨rfl, b1⟩
  clear p0 p1 p2 p3 p4 q0 q1 q2 q3 q4
  go_wp2
  go_ret
  exact ⟨rfl, a0.trans (b1.mono a0.size)⟩

/-- All blocks but g are as they were, and nothing but blocks has changed. -/
structure Bts (g : Nat) (w w' : World) : Prop where
  but : But g w w'
  low : Below 0 w w'
theorem Bts.refl (g : Nat) (w : World) : Bts g w w := ⟨But.refl _ _, Below.refl _ _⟩
theorem Bts.drew {g : Nat} {w w' : World} (h : Bts g w w') : Bts g w w'.drew := ⟨h.but.drew, h.low.drew⟩
theorem Bts.call {g : Nat} {w w' w2 : World} (h : Bts g w w') (b : Below w'.heap.size w' w2) : Bts g w w2 := ⟨h.but.call b, h.low.trans (b.mono (Nat.zero_le _))⟩
theorem Bts.set {g : Nat} {w w' : World} (h : Bts g w w') (i : Nat) (u : Value) : Bts g w (w'.setCell ⟨g, i, none⟩ u) := ⟨h.but.set i u, h.low.setCell (Nat.zero_le _) u⟩
theorem Bts.trans {g : Nat} {w w' w2 : World} (h : Bts g w w') (k : Bts g w' w2) : Bts g w w2 := ⟨⟨Nat.le_trans h.but.size k.but.size, fun i hi hg => (k.but.block i (Nat.lt_of_lt_of_le hi h.but.size) hg).trans (h.but.block i hi hg)⟩, h.low.trans k.low⟩
theorem Bts.below {g B : Nat} {w w' : World} (h : Bts g w w') (hB : B ≤ g) (hs : B ≤ w.heap.size) : Below B w w' := ⟨h.low.os, h.low.tape, h.low.output, h.but.size, fun k hk => h.but.block k (by omega) (by omega)⟩
/-- What the sorts answer: the row anew, all other blocks as they were. -/
def SortPost (F : Nat → Prop) (w : World) (g : Nat) (ys : List Fp) (e : Ending) (w' : World) : Prop := e = .returned (.tuple #[]) ∧ Ro fndE F 28 w' g ys ∧ Bts g w w'

set_option maxHeartbeats 4000000 in
theorem gIns_any {F : Nat → Prop} (g : Nat) (n c : Nat) (xs : List Fp) (a b : Nat) (w : World) (h : Ro fndE F 28 w g xs) (hn : xs.length = n) (hc : n ≤ c) (hcb : c ≤ 9223372036854775807) (hab : a ≤ b) (hbn : b ≤ n) (hn2 : n ≤ 4611686018427387904) :
    Calls Tryd.prog 69 #[.slice (some ⟨g, 0, none⟩) n c, .int .i64 (a : Int), .int .i64 (b : Int), .func (.func 36) #[] #[]] w (SortPost F w g (xs.take a ++ (sortK seqK ((xs.take b).drop a) ++ xs.drop b))) := by
  obtain ⟨ys, hys⟩ : ∃ y, Hid (y = xs.take a ++ (sortK seqK ((xs.take b).drop a) ++ xs.drop b)) := ⟨_, rfl⟩
  rw [← hys.out]
  have hL1 : Hid (xs = xs.take a ++ (sortK seqK ((xs.drop a).take 1) ++ xs.drop (a + 1))) := by
    show xs = _
    have e1 : sortK seqK ((xs.drop a).take 1) = (xs.drop a).take 1 := by
      rcases hd : (xs.drop a) with _ | ⟨z, zs⟩ <;> simp [sortK, insK]
    rw [e1, show a + 1 = a + 1 from rfl, ← List.drop_drop, List.take_append_drop, List.take_append_drop]
  go_enter Tryd.func69, Tryd.ntmps69
  go_wp2_with fail
  go_loopg [8] (b - a) (fun gk iv wr => ∃ (i m : Nat) (L : List Fp), 1 ≤ m ∧ m + gk = b - a + 1 ∧ Hid (i = a + m) ∧ Hid (a < b → m ≤ b - a) ∧ iv = .int .i64 (i : Int) ∧ Hid (L = xs.take a ++ (sortK seqK ((xs.drop a).take m) ++ xs.drop (a + m))) ∧ Ro fndE F 28 wr g L ∧ Bts g w wr)
  case atStart => exact ⟨a + 1, 1, xs, Nat.le_refl _, by omega, rfl, fun h => by omega, by first | rfl | (simp; done), hL1, h, Bts.refl _ _⟩
  case round =>
    clear h
    obtain ⟨i, m, L, hm1, hmg, hi, hmb, rfl, hL, hR, hu⟩ := hrel
    by_cases hlt : (i : Int) < (b : Int)
    · obtain ⟨gq, rfl⟩ : ∃ q, gk = q + 1 := ⟨gk - 1, by have := hi.out; omega⟩
      have hlt2 : a + m < xs.length := by have := hi.out; omega
      have hmn : m < n := by omega
      obtain ⟨x, hx⟩ : ∃ x, xs[a + m]? = some x := ⟨_, List.getElem?_eq_getElem hlt2⟩
      obtain ⟨S, hS⟩ : ∃ S, Hid (S = sortK seqK ((xs.drop a).take m)) := ⟨_, rfl⟩
      have hSl : S.length = m := by rw [hS.out, sortK_length, List.length_take, List.length_drop]; omega
      have hSs : Aside (SortedK seqK S) := by
        show SortedK seqK S
        rw [hS.out]
        exact sortK_sorted _ _
      have hpl : (xs.take a).length = a := by rw [List.length_take]; omega
      have hL2 : L = stK (xs.take a) S (xs.drop (a + m + 1)) x m := by
        have e1 : S.take m = S := List.take_of_length_le (by omega)
        have e2 : S.drop m = [] := List.drop_of_length_le (by omega)
        have e3 : xs.drop (a + m) = x :: xs.drop (a + m + 1) := by
          obtain ⟨_, hx2⟩ := List.getElem?_eq_some_iff.1 hx
          rw [List.drop_eq_getElem_cons hlt2, hx2]
        rw [hL.out, stK, ← hS.out, e1, e2, e3]
        simp
      subst hL2
      have hin : Hid (∀ p, p ≤ m → S.take p ++ x :: S.drop p = insK seqK S x → stK (xs.take a) S (xs.drop (a + m + 1)) x p = xs.take a ++ (sortK seqK ((xs.drop a).take (m + 1)) ++ xs.drop (a + (m + 1)))) := by
        show ∀ p, _
        intro p hp e
        rw [stK, e, List.take_add_one, List.getElem?_drop, hx, Option.toList_some, sortK_snoc, ← hS.out]
        rfl
      have hal0 : Aside (∀ y ∈ S.drop m, seqK x < seqK y) := by
        show ∀ y ∈ S.drop m, _
        rw [List.drop_of_length_le (by omega)]
        intro y hy
        cases hy
      have hlen0 : ∀ p, (stK (xs.take a) S (xs.drop (a + m + 1)) x p).length = n := fun p => by
        rw [stK_length, hpl, hSl, List.length_drop]
        omega
      have hlen : Hid (∀ p, (stK (xs.take a) S (xs.drop (a + m + 1)) x p).length = n) := hlen0
      clear hlen0
      have hib : i < n := by omega
      clear hL hx hS
      go_wp2_with fail
      go_loopg [9] m (fun gp jv wr => ∃ (p jj : Nat), p = gp ∧ p ≤ m ∧ Hid (jj = a + p) ∧ jv = .int .i64 (jj : Int) ∧ Aside (∀ y ∈ S.drop p, seqK x < seqK y) ∧ Ro fndE F 28 wr g (stK (xs.take a) S (xs.drop (a + m + 1)) x p) ∧ Bts g w wr)
      case atStart => exact ⟨m, i, rfl, Nat.le_refl _, hi, rfl, hal0, hR, hu⟩
      case round =>
        clear hal0 hR hu
        obtain ⟨p, jj, rfl, hpm, hjj, rfl, hal, hR, hu⟩ := hrel
        rcases Nat.eq_zero_or_pos p with hp0 | hp0
        · subst hp0
          obtain rfl : a = jj := by have := hjj.out; omega
          have hLn : Hid (stK (xs.take a) S (xs.drop (a + m + 1)) x 0 = xs.take a ++ (sortK seqK ((xs.drop a).take (m + 1)) ++ xs.drop (a + (m + 1)))) := hin.out 0 (by omega) (insK_at seqK hSs.out (by omega) hal.out (fun q y e => by omega))
          clear hin hal hSs hlen
          go_wp2_with fail
          refine wp_region_held_drew (S := fun w' => Below wr.heap.size wr w') (by kernel_rfl) (Below.refl _ _).drew (fun hHeld => ?_)
          try dsimp only at hHeld
          have bd : Below wr.heap.size wr wr.drew := (Below.refl wr.heap.size wr).drew
          generalize wr.drew = wd at *
          try simp only [Act.put, List.setIfInBounds_toArray, List.set_cons_zero, List.set_cons_succ]
          refine wpAnyH_take (i := 0) (v := ?_) (by simp only [List.getElem?_toArray, List.getElem?_cons_zero]; rfl) (by kernel_rfl) (by kernel_rfl) (by kernel_rfl) (by intro _ _ _ h; exact h) (Or.inl ⟨by rfl, ?_⟩) hHeld ?_
          rotate_left 1
          · intro wq hSw
            try dsimp only at hSw
            go_simp
            try (with_reducible rfl)
          try simp only [Act.put, List.setIfInBounds_toArray, List.set_cons_zero, List.set_cons_succ]
          refine wpAnyH_take (i := 1) (v := ?_) (by simp only [List.getElem?_toArray, List.getElem?_cons_succ, List.getElem?_cons_zero]; rfl) (by kernel_rfl) (by kernel_rfl) (by kernel_rfl) (by intro _ _ _ h; exact h) (Or.inl ⟨by rfl, ?_⟩) hHeld ?_
          rotate_left 1
          · intro wq hSw
            try dsimp only at hSw
            go_simp
            try (with_reducible rfl)
          try simp only [Act.put, List.setIfInBounds_toArray, List.set_cons_zero, List.set_cons_succ]
          refine wpAnyH_take (i := 2) (v := .bool false) (by simp only [List.getElem?_toArray, List.getElem?_cons_succ, List.getElem?_cons_zero]; rfl) (by kernel_rfl) (by kernel_rfl) (by kernel_rfl) (by intro _ _ _ h; exact h) (Or.inl ⟨by rfl, ?_⟩) hHeld ?_
          · intro wq hSw
            try dsimp only at hSw
            go_simp
            all_goals (first | (with_reducible rfl) | omega | (simp; done) | (simp; omega))
          try simp only [Act.put, List.setIfInBounds_toArray, List.set_cons_zero, List.set_cons_succ]
          refine wpAnyH_take (i := 3) (v := ?_) (by simp only [List.getElem?_toArray, List.getElem?_cons_succ, List.getElem?_cons_zero]; rfl) (by kernel_rfl) (by kernel_rfl) (by kernel_rfl) (by intro _ _ _ h; exact h) (Or.inl ⟨by rfl, ?_⟩) hHeld ?_
          rotate_left 1
          · intro wq hSw
            try dsimp only at hSw
            go_simp
            try (with_reducible rfl)
          try simp only [Act.put, List.setIfInBounds_toArray, List.set_cons_zero, List.set_cons_succ]
          refine wpAnyH_take (i := 4) (v := undef) (by simp only [List.getElem?_toArray, List.getElem?_cons_succ, List.getElem?_cons_zero]; rfl) (by kernel_rfl) (by kernel_rfl) (by kernel_rfl) (by intro _ _ _ h; exact h) (Or.inr ⟨by rfl, rfl⟩) hHeld ?_
          try simp only [Act.put, List.setIfInBounds_toArray, List.set_cons_zero, List.set_cons_succ]
          refine wpAnyH_take (i := 5) (v := undef) (by simp only [List.getElem?_toArray, List.getElem?_cons_succ, List.getElem?_cons_zero]; rfl) (by kernel_rfl) (by kernel_rfl) (by kernel_rfl) (by intro _ _ _ h; exact h) (Or.inr ⟨by rfl, rfl⟩) hHeld ?_
          try simp only [Act.put, List.setIfInBounds_toArray, List.set_cons_zero, List.set_cons_succ]
          refine wpAnyH_take (i := 6) (v := undef) (by simp only [List.getElem?_toArray, List.getElem?_cons_succ, List.getElem?_cons_zero]; rfl) (by kernel_rfl) (by kernel_rfl) (by kernel_rfl) (by intro _ _ _ h; exact h) (Or.inr ⟨by rfl, rfl⟩) hHeld ?_
          try simp only [Act.put, List.setIfInBounds_toArray, List.set_cons_zero, List.set_cons_succ]
          refine wpAnyH_take (i := 7) (v := undef) (by simp only [List.getElem?_toArray, List.getElem?_cons_succ, List.getElem?_cons_zero]; rfl) (by kernel_rfl) (by kernel_rfl) (by kernel_rfl) (by intro _ _ _ h; exact h) (Or.inr ⟨by rfl, rfl⟩) hHeld ?_
          try simp only [Act.put, List.setIfInBounds_toArray, List.set_cons_zero, List.set_cons_succ]
          refine wpAnyH_take (i := 8) (v := undef) (by simp only [List.getElem?_toArray, List.getElem?_cons_succ, List.getElem?_cons_zero]; rfl) (by kernel_rfl) (by kernel_rfl) (by kernel_rfl) (by intro _ _ _ h; exact h) (Or.inr ⟨by rfl, rfl⟩) hHeld ?_
          try simp only [Act.put, List.setIfInBounds_toArray, List.set_cons_zero, List.set_cons_succ]
          refine wpAnyH_take (i := 9) (v := undef) (by simp only [List.getElem?_toArray, List.getElem?_cons_succ, List.getElem?_cons_zero]; rfl) (by kernel_rfl) (by kernel_rfl) (by kernel_rfl) (by intro _ _ _ h; exact h) (Or.inr ⟨by rfl, rfl⟩) hHeld ?_
          try simp only [Act.put, List.setIfInBounds_toArray, List.set_cons_zero, List.set_cons_succ]
          refine wpAnyH_take (i := 10) (v := undef) (by simp only [List.getElem?_toArray, List.getElem?_cons_succ, List.getElem?_cons_zero]; rfl) (by kernel_rfl) (by kernel_rfl) (by kernel_rfl) (by intro _ _ _ h; exact h) (Or.inr ⟨by rfl, rfl⟩) hHeld ?_
          try simp only [Act.put, List.setIfInBounds_toArray, List.set_cons_zero, List.set_cons_succ]
          refine wpAnyH_take (i := 11) (v := undef) (by simp only [List.getElem?_toArray, List.getElem?_cons_succ, List.getElem?_cons_zero]; rfl) (by kernel_rfl) (by kernel_rfl) (by kernel_rfl) (by intro _ _ _ h; exact h) (Or.inr ⟨by rfl, rfl⟩) hHeld ?_
          try simp only [Act.put, List.setIfInBounds_toArray, List.set_cons_zero, List.set_cons_succ]
          refine wpAnyH_take (i := 12) (v := undef) (by simp only [List.getElem?_toArray, List.getElem?_cons_succ, List.getElem?_cons_zero]; rfl) (by kernel_rfl) (by kernel_rfl) (by kernel_rfl) (by intro _ _ _ h; exact h) (Or.inr ⟨by rfl, rfl⟩) hHeld ?_
          try simp only [Act.put, List.setIfInBounds_toArray, List.set_cons_zero, List.set_cons_succ]
          refine wpAnyH_take (i := 13) (v := undef) (by simp only [List.getElem?_toArray, List.getElem?_cons_succ, List.getElem?_cons_zero]; rfl) (by kernel_rfl) (by kernel_rfl) (by kernel_rfl) (by intro _ _ _ h; exact h) (Or.inr ⟨by rfl, rfl⟩) hHeld ?_
          try simp only [Act.put, List.setIfInBounds_toArray, List.set_cons_zero, List.set_cons_succ]
          refine wpAnyH_take (i := 14) (v := undef) (by simp only [List.getElem?_toArray, List.getElem?_cons_succ, List.getElem?_cons_zero]; rfl) (by kernel_rfl) (by kernel_rfl) (by kernel_rfl) (by intro _ _ _ h; exact h) (Or.inr ⟨by rfl, rfl⟩) hHeld ?_
          try simp only [Act.put, List.setIfInBounds_toArray, List.set_cons_zero, List.set_cons_succ]
          refine wpAnyH_take (i := 15) (v := undef) (by simp only [List.getElem?_toArray, List.getElem?_cons_succ, List.getElem?_cons_zero]; rfl) (by kernel_rfl) (by kernel_rfl) (by kernel_rfl) (by intro _ _ _ h; exact h) (Or.inr ⟨by rfl, rfl⟩) hHeld ?_
          try simp only [Act.put, List.setIfInBounds_toArray, List.set_cons_zero, List.set_cons_succ]
          refine wpAnyH_take (i := 16) (v := ?_) (by simp only [List.getElem?_toArray, List.getElem?_cons_succ, List.getElem?_cons_zero]; rfl) (by kernel_rfl) (by kernel_rfl) (by kernel_rfl) (by intro _ _ _ h; exact h) (Or.inl ⟨by rfl, ?_⟩) hHeld ?_
          rotate_left 1
          · intro wq hSw
            try dsimp only at hSw
            go_simp
            try (with_reducible rfl)
          try simp only [Act.put, List.setIfInBounds_toArray, List.set_cons_zero, List.set_cons_succ]
          refine wpAnyH_done (by kernel_rfl) ?_ _
          replace hR := hR.under bd
          replace hu := hu.call bd
          clear bd
          go_wp2
          go_roundg gq
          case measure => omega
          case rel => exact ⟨i + 1, m + 1, _, by omega, by omega, by have := hi.out; show i + 1 = a + (m + 1); omega, fun _ => by have := hi.out; omega, by first | rfl | (simp; done) | (simp; omega), hLn, hR, hu⟩
        · obtain ⟨q, rfl⟩ : ∃ q, p = q + 1 := ⟨p - 1, by omega⟩
          obtain ⟨y, hyq'⟩ : ∃ y, S[q]? = some y := ⟨_, List.getElem?_eq_getElem (by omega)⟩
          obtain ⟨j, hj'⟩ : ∃ j, j = a + q := ⟨_, rfl⟩
          have hj1 : j + 1 < n := by omega
          have hxg' := stK_x (xs.take a) S (xs.drop (a + m + 1)) x (show q + 1 ≤ S.length by omega)
          have hyg' := stK_y (xs.take a) S (xs.drop (a + m + 1)) x (show q + 1 ≤ S.length by omega)
          have hst' := stK_step (xs.take a) S (xs.drop (a + m + 1)) x y hyq'
          rw [hpl, show a + (q + 1) = j + 1 by omega] at hxg'
          rw [hpl, ← hj', hyq'] at hyg'
          rw [hpl, ← hj'] at hst'
          have hxg : Aside ((stK (xs.take a) S (xs.drop (a + m + 1)) x (q + 1))[j + 1]? = some x) := hxg'
          have hyg : Aside ((stK (xs.take a) S (xs.drop (a + m + 1)) x (q + 1))[j]? = some y) := hyg'
          have hstep : Hid (((stK (xs.take a) S (xs.drop (a + m + 1)) x (q + 1)).set (j + 1) y).set j x = stK (xs.take a) S (xs.drop (a + m + 1)) x q) := hst'
          have hjl' : j + 1 < (stK (xs.take a) S (xs.drop (a + m + 1)) x (q + 1)).length := by rw [hlen.out]; omega
          have hjl := Lib.hid hjl'
          have hzg : Aside (((stK (xs.take a) S (xs.drop (a + m + 1)) x (q + 1)).set (j + 1) y)[j]? = some y) := by
            show _ = some y
            rw [List.getElem?_set, if_neg (by omega)]
            exact hyg'
          obtain rfl : jj = j + 1 := by have := hjj.out; omega
          have hjq : Hid (j = a + q) := hj'
          have haj : a ≤ j := by omega
          have hyq : Aside (S[q]? = some y) := hyq'
          clear hxg' hyg' hst' hjl' hyq' hj'
          obtain ⟨Ax, cx, _, x0, x1, x2, x3, x4⟩ := Ro.fnd_at hR hxg.out
          obtain ⟨Ay, cy, _, y0, y1, y2, y3, y4⟩ := Ro.fnd_at hR hyg.out
          have hlt := hR.lt
          by_cases hc1 : x.r.s < y.r.s
          · have hcmp : cmpI x.r.s y.r.s = -1 := by rw [cmpI, if_pos hc1]
            have hal2 : Aside (∀ z ∈ S.drop q, seqK x < seqK z) := by
              show ∀ z ∈ S.drop q, _
              obtain ⟨hq1, hq2⟩ := List.getElem?_eq_some_iff.1 hyq.out
              rw [List.drop_eq_getElem_cons hq1, hq2]
              intro z hz
              rcases List.mem_cons.1 hz with rfl | hz
              · exact hc1
              · exact hal.out z hz
            clear hc1
            go_wp2_with fail
            refine wp_region_held_drew (S := fun w' => Below wr.heap.size wr w') (by kernel_rfl) (Below.refl _ _).drew (fun hHeld => ?_)
            try dsimp only at hHeld
            have bd : Below wr.heap.size wr wr.drew := (Below.refl wr.heap.size wr).drew
            generalize wr.drew = wd at *
            try simp only [Act.put, List.setIfInBounds_toArray, List.set_cons_zero, List.set_cons_succ]
            refine wpAnyH_take (i := 0) (v := ?_) (by simp only [List.getElem?_toArray, List.getElem?_cons_zero]; rfl) (by kernel_rfl) (by kernel_rfl) (by kernel_rfl) (by intro _ _ _ h; exact h) (Or.inl ⟨by rfl, ?_⟩) hHeld ?_
            rotate_left 1
            · intro wq hSw
              try dsimp only at hSw
              go_simp
              try (with_reducible rfl)
            try simp only [Act.put, List.setIfInBounds_toArray, List.set_cons_zero, List.set_cons_succ]
            refine wpAnyH_take (i := 1) (v := ?_) (by simp only [List.getElem?_toArray, List.getElem?_cons_succ, List.getElem?_cons_zero]; rfl) (by kernel_rfl) (by kernel_rfl) (by kernel_rfl) (by intro _ _ _ h; exact h) (Or.inl ⟨by rfl, ?_⟩) hHeld ?_
            rotate_left 1
            · intro wq hSw
              try dsimp only at hSw
              go_simp
              try (with_reducible rfl)
            try simp only [Act.put, List.setIfInBounds_toArray, List.set_cons_zero, List.set_cons_succ]
            refine wpAnyH_take (i := 2) (v := .bool true) (by simp only [List.getElem?_toArray, List.getElem?_cons_succ, List.getElem?_cons_zero]; rfl) (by kernel_rfl) (by kernel_rfl) (by kernel_rfl) (by intro _ _ _ h; exact h) (Or.inl ⟨by rfl, ?_⟩) hHeld ?_
            · intro wq hSw
              try dsimp only at hSw
              go_simp
              all_goals (first | (with_reducible rfl) | omega | (simp; done) | (simp; omega))
            try simp only [Act.put, List.setIfInBounds_toArray, List.set_cons_zero, List.set_cons_succ]
            refine wpAnyH_take (i := 3) (v := ?_) (by simp only [List.getElem?_toArray, List.getElem?_cons_succ, List.getElem?_cons_zero]; rfl) (by kernel_rfl) (by kernel_rfl) (by kernel_rfl) (by intro _ _ _ h; exact h) (Or.inl ⟨by rfl, ?_⟩) hHeld ?_
            rotate_left 1
            · intro wq hSw
              try dsimp only at hSw
              go_simp
              try (with_reducible rfl)
            try simp only [Act.put, List.setIfInBounds_toArray, List.set_cons_zero, List.set_cons_succ]
            refine wpAnyH_take (i := 4) (v := ?_) (by simp only [List.getElem?_toArray, List.getElem?_cons_succ, List.getElem?_cons_zero]; rfl) (by kernel_rfl) (by kernel_rfl) (by kernel_rfl) (by intro _ _ _ h; exact h) (Or.inl ⟨by rfl, ?_⟩) hHeld ?_
            rotate_left 1
            · intro wq hSw
              try dsimp only at hSw
              go_simp
              try (with_reducible rfl)
            try simp only [Act.put, List.setIfInBounds_toArray, List.set_cons_zero, List.set_cons_succ]
            refine wpAnyH_take (i := 5) (v := ?_) (by simp only [List.getElem?_toArray, List.getElem?_cons_succ, List.getElem?_cons_zero]; rfl) (by kernel_rfl) (by kernel_rfl) (by kernel_rfl) (by intro _ _ _ h; exact h) (Or.inl ⟨by rfl, ?_⟩) hHeld ?_
            rotate_left 1
            · intro wq hSw
              try dsimp only at hSw
              go_simp
              try (with_reducible rfl)
            try simp only [Act.put, List.setIfInBounds_toArray, List.set_cons_zero, List.set_cons_succ]
            refine wpAnyH_take (i := 6) (v := ?_) (by simp only [List.getElem?_toArray, List.getElem?_cons_succ, List.getElem?_cons_zero]; rfl) (by kernel_rfl) (by kernel_rfl) (by kernel_rfl) (by intro _ _ _ h; exact h) (Or.inl ⟨by rfl, ?_⟩) hHeld ?_
            rotate_left 1
            · intro wq hSw
              try dsimp only at hSw
              go_simp
              try (with_reducible rfl)
            try simp only [Act.put, List.setIfInBounds_toArray, List.set_cons_zero, List.set_cons_succ]
            refine wpAnyH_take (i := 7) (v := .pointer (some ⟨g, (j + 1) * 5, none⟩)) (by simp only [List.getElem?_toArray, List.getElem?_cons_succ, List.getElem?_cons_zero]; rfl) (by kernel_rfl) (by kernel_rfl) (by kernel_rfl) (by intro _ _ _ h; exact h) (Or.inl ⟨by rfl, ?_⟩) hHeld ?_
            · intro wq hSw
              try dsimp only at hSw
              go_simp
              all_goals (first | (with_reducible rfl) | (intro hh; exfalso; omega))
            try simp only [Act.put, List.setIfInBounds_toArray, List.set_cons_zero, List.set_cons_succ]
            refine wpAnyH_take (i := 8) (v := ?_) (by simp only [List.getElem?_toArray, List.getElem?_cons_succ, List.getElem?_cons_zero]; rfl) (by kernel_rfl) (by kernel_rfl) (by kernel_rfl) (by intro _ _ _ h; exact h) (Or.inl ⟨by rfl, ?_⟩) hHeld ?_
            rotate_left 1
            · intro wq hSw
              try dsimp only at hSw
              have x0' := (hSw.cell hlt).trans x0
              have x1' := (hSw.cell hlt).trans x1
              have x2' := (hSw.cell hlt).trans x2
              have x3' := (hSw.cell hlt).trans x3
              have x4' := (hSw.cell hlt).trans x4
              go_simp
              try (with_reducible rfl)
            try simp only [Act.put, List.setIfInBounds_toArray, List.set_cons_zero, List.set_cons_succ]
            refine wpAnyH_take (i := 9) (v := ?_) (by simp only [List.getElem?_toArray, List.getElem?_cons_succ, List.getElem?_cons_zero]; rfl) (by kernel_rfl) (by kernel_rfl) (by kernel_rfl) (by intro _ _ _ h; exact h) (Or.inl ⟨by rfl, ?_⟩) hHeld ?_
            rotate_left 1
            · intro wq hSw
              try dsimp only at hSw
              go_simp
              try (with_reducible rfl)
            try simp only [Act.put, List.setIfInBounds_toArray, List.set_cons_zero, List.set_cons_succ]
            refine wpAnyH_take (i := 10) (v := ?_) (by simp only [List.getElem?_toArray, List.getElem?_cons_succ, List.getElem?_cons_zero]; rfl) (by kernel_rfl) (by kernel_rfl) (by kernel_rfl) (by intro _ _ _ h; exact h) (Or.inl ⟨by rfl, ?_⟩) hHeld ?_
            rotate_left 1
            · intro wq hSw
              try dsimp only at hSw
              go_simp
              try (with_reducible rfl)
            try simp only [Act.put, List.setIfInBounds_toArray, List.set_cons_zero, List.set_cons_succ]
            refine wpAnyH_take (i := 11) (v := .int .i64 (j : Int)) (by simp only [List.getElem?_toArray, List.getElem?_cons_succ, List.getElem?_cons_zero]; rfl) (by kernel_rfl) (by kernel_rfl) (by kernel_rfl) (by intro _ _ _ h; exact h) (Or.inl ⟨by rfl, ?_⟩) hHeld ?_
            · intro wq hSw
              try dsimp only at hSw
              go_simp
              all_goals (first | (with_reducible rfl) | (rw [wrapi64 (by omega) (by omega)]) | exact wrapi64 (by omega) (by omega))
            try simp only [Act.put, List.setIfInBounds_toArray, List.set_cons_zero, List.set_cons_succ]
            refine wpAnyH_take (i := 12) (v := .pointer (some ⟨g, j * 5, none⟩)) (by simp only [List.getElem?_toArray, List.getElem?_cons_succ, List.getElem?_cons_zero]; rfl) (by kernel_rfl) (by kernel_rfl) (by kernel_rfl) (by intro _ _ _ h; exact h) (Or.inl ⟨by rfl, ?_⟩) hHeld ?_
            · intro wq hSw
              try dsimp only at hSw
              go_simp
              all_goals (first | (with_reducible rfl) | (intro hh; exfalso; omega))
            try simp only [Act.put, List.setIfInBounds_toArray, List.set_cons_zero, List.set_cons_succ]
            refine wpAnyH_take (i := 13) (v := ?_) (by simp only [List.getElem?_toArray, List.getElem?_cons_succ, List.getElem?_cons_zero]; rfl) (by kernel_rfl) (by kernel_rfl) (by kernel_rfl) (by intro _ _ _ h; exact h) (Or.inl ⟨by rfl, ?_⟩) hHeld ?_
            rotate_left 1
            · intro wq hSw
              try dsimp only at hSw
              have y0' := (hSw.cell hlt).trans y0
              have y1' := (hSw.cell hlt).trans y1
              have y2' := (hSw.cell hlt).trans y2
              have y3' := (hSw.cell hlt).trans y3
              have y4' := (hSw.cell hlt).trans y4
              go_simp
              try (with_reducible rfl)
            try simp only [Act.put, List.setIfInBounds_toArray, List.set_cons_zero, List.set_cons_succ]
            refine wpAnyH_ready (rs := [14]) (by kernel_rfl) (by simp) ?_
            refine AllReadyH.cons (by simp only [List.getElem?_toArray, List.getElem?_cons_succ, List.getElem?_cons_zero]; rfl) (fun K hK => ?_) AllReadyH.nil
            have hC := gAll1_any x y Ax Ay cx cy wd
            go_simp
            refine hC.mono ?_
            clear hC
            rintro e w2 ⟨rfl, b2⟩
            rw [hcmp]
            go_wp2_with fail
            refine hK.out _ _ (bd.trans (b2.mono bd.size)) (fun hHeld => ?_)
            clear hK K
            try dsimp only at hHeld
            try simp only [Act.put, List.setIfInBounds_toArray, List.set_cons_zero, List.set_cons_succ]
            refine wpAnyH_take (i := 15) (v := ?_) (by simp only [List.getElem?_toArray, List.getElem?_cons_succ, List.getElem?_cons_zero]; rfl) (by kernel_rfl) (by kernel_rfl) (by kernel_rfl) (by intro _ _ _ h; exact h) (Or.inl ⟨by rfl, ?_⟩) hHeld ?_
            rotate_left 1
            · intro wq hSw
              try dsimp only at hSw
              go_simp
              try (with_reducible rfl)
            try simp only [Act.put, List.setIfInBounds_toArray, List.set_cons_zero, List.set_cons_succ]
            refine wpAnyH_take (i := 16) (v := ?_) (by simp only [List.getElem?_toArray, List.getElem?_cons_succ, List.getElem?_cons_zero]; rfl) (by kernel_rfl) (by kernel_rfl) (by kernel_rfl) (by intro _ _ _ h; exact h) (Or.inl ⟨by rfl, ?_⟩) hHeld ?_
            rotate_left 1
            · intro wq hSw
              try dsimp only at hSw
              go_simp
              try (with_reducible rfl)
            try simp only [Act.put, List.setIfInBounds_toArray, List.set_cons_zero, List.set_cons_succ]
            refine wpAnyH_done (by kernel_rfl) ?_ _
            have b3 := bd.trans (b2.mono bd.size)
            replace hR := hR.under b3
            replace hu := hu.call b3
            clear x0 x1 x2 x3 x4 y0 y1 y2 y3 y4 hHeld b3 b2 bd
            go_wp2_with fail
            refine wp_region_held_drew (S := fun w' => True) (by kernel_rfl) trivial (fun hHeld => ?_)
            try dsimp only at hHeld
            replace hR := hR.drew
            replace hu := hu.drew
            generalize w2.drew = wd at *
            obtain ⟨Ax, cx, hx, x0, x1, x2, x3, x4⟩ := Ro.fnd_at hR hxg.out
            obtain ⟨Ay, cy, hy, y0, y1, y2, y3, y4⟩ := Ro.fnd_at hR hyg.out
            have xf0 := hR.frozen ((j + 1) * 5)
            have xf1 := hR.frozen ((j + 1) * 5 + 1)
            have xf2 := hR.frozen ((j + 1) * 5 + 2)
            have xf3 := hR.frozen ((j + 1) * 5 + 3)
            have xf4 := hR.frozen ((j + 1) * 5 + 4)
            try simp only [Act.put, List.setIfInBounds_toArray, List.set_cons_zero, List.set_cons_succ]
            refine wpAnyH_take (i := 0) (v := ?_) (by simp only [List.getElem?_toArray, List.getElem?_cons_zero]; rfl) (by kernel_rfl) (by kernel_rfl) (by kernel_rfl) (by intro _ _ _ h; exact h) (Or.inl ⟨by rfl, ?_⟩) hHeld ?_
            rotate_left 1
            · intro wq hSw
              try dsimp only at hSw
              go_simp
              try (with_reducible rfl)
            try simp only [Act.put, List.setIfInBounds_toArray, List.set_cons_zero, List.set_cons_succ]
            refine wpAnyH_take (i := 1) (v := ?_) (by simp only [List.getElem?_toArray, List.getElem?_cons_succ, List.getElem?_cons_zero]; rfl) (by kernel_rfl) (by kernel_rfl) (by kernel_rfl) (by intro _ _ _ h; exact h) (Or.inl ⟨by rfl, ?_⟩) hHeld ?_
            rotate_left 1
            · intro wq hSw
              try dsimp only at hSw
              go_simp
              try (with_reducible rfl)
            try simp only [Act.put, List.setIfInBounds_toArray, List.set_cons_zero, List.set_cons_succ]
            refine wpAnyH_take (i := 2) (v := ?_) (by simp only [List.getElem?_toArray, List.getElem?_cons_succ, List.getElem?_cons_zero]; rfl) (by kernel_rfl) (by kernel_rfl) (by kernel_rfl) (by intro _ _ _ h; exact h) (Or.inl ⟨by rfl, ?_⟩) hHeld ?_
            rotate_left 1
            · intro wq hSw
              try dsimp only at hSw
              go_simp
              try (with_reducible rfl)
            try simp only [Act.put, List.setIfInBounds_toArray, List.set_cons_zero, List.set_cons_succ]
            refine wpAnyH_take (i := 3) (v := ?_) (by simp only [List.getElem?_toArray, List.getElem?_cons_succ, List.getElem?_cons_zero]; rfl) (by kernel_rfl) (by kernel_rfl) (by kernel_rfl) (by intro _ _ _ h; exact h) (Or.inl ⟨by rfl, ?_⟩) hHeld ?_
            rotate_left 1
            · intro wq hSw
              try dsimp only at hSw
              go_simp
              try (with_reducible rfl)
            try simp only [Act.put, List.setIfInBounds_toArray, List.set_cons_zero, List.set_cons_succ]
            refine wpAnyH_take (i := 4) (v := .int .i64 (j : Int)) (by simp only [List.getElem?_toArray, List.getElem?_cons_succ, List.getElem?_cons_zero]; rfl) (by kernel_rfl) (by kernel_rfl) (by kernel_rfl) (by intro _ _ _ h; exact h) (Or.inl ⟨by rfl, ?_⟩) hHeld ?_
            · intro wq hSw
              try dsimp only at hSw
              go_simp
              all_goals (first | (with_reducible rfl) | (rw [wrapi64 (by omega) (by omega)]) | exact wrapi64 (by omega) (by omega))
            try simp only [Act.put, List.setIfInBounds_toArray, List.set_cons_zero, List.set_cons_succ]
            refine wpAnyH_take (i := 5) (v := ?_) (by simp only [List.getElem?_toArray, List.getElem?_cons_succ, List.getElem?_cons_zero]; rfl) (by kernel_rfl) (by kernel_rfl) (by kernel_rfl) (by intro _ _ _ h; exact h) (Or.inl ⟨by rfl, ?_⟩) hHeld ?_
            rotate_left 1
            · intro wq hSw
              try dsimp only at hSw
              go_simp
              try (with_reducible rfl)
            try simp only [Act.put, List.setIfInBounds_toArray, List.set_cons_zero, List.set_cons_succ]
            refine wpAnyH_take (i := 6) (v := ?_) (by simp only [List.getElem?_toArray, List.getElem?_cons_succ, List.getElem?_cons_zero]; rfl) (by kernel_rfl) (by kernel_rfl) (by kernel_rfl) (by intro _ _ _ h; exact h) (Or.inl ⟨by rfl, ?_⟩) hHeld ?_
            rotate_left 1
            · intro wq hSw
              try dsimp only at hSw
              go_simp
              try (with_reducible rfl)
            try simp only [Act.put, List.setIfInBounds_toArray, List.set_cons_zero, List.set_cons_succ]
            refine wpAnyH_take (i := 7) (v := .int .i64 (j : Int)) (by simp only [List.getElem?_toArray, List.getElem?_cons_succ, List.getElem?_cons_zero]; rfl) (by kernel_rfl) (by kernel_rfl) (by kernel_rfl) (by intro _ _ _ h; exact h) (Or.inl ⟨by rfl, ?_⟩) hHeld ?_
            · intro wq hSw
              try dsimp only at hSw
              go_simp
              all_goals (first | (with_reducible rfl) | (rw [wrapi64 (by omega) (by omega)]) | exact wrapi64 (by omega) (by omega))
            try simp only [Act.put, List.setIfInBounds_toArray, List.set_cons_zero, List.set_cons_succ]
            refine wpAnyH_take (i := 8) (v := .pointer (some ⟨g, j * 5, none⟩)) (by simp only [List.getElem?_toArray, List.getElem?_cons_succ, List.getElem?_cons_zero]; rfl) (by kernel_rfl) (by kernel_rfl) (by kernel_rfl) (by intro _ _ _ h; exact h) (Or.inl ⟨by rfl, ?_⟩) hHeld ?_
            · intro wq hSw
              try dsimp only at hSw
              go_simp
              all_goals (first | (with_reducible rfl) | (intro hh; exfalso; omega))
            try simp only [Act.put, List.setIfInBounds_toArray, List.set_cons_zero, List.set_cons_succ]
            refine wpAnyH_take (i := 10) (v := ?_) (by simp only [List.getElem?_toArray, List.getElem?_cons_succ, List.getElem?_cons_zero]; rfl) (by kernel_rfl) (by kernel_rfl) (by kernel_rfl) (by intro _ _ _ h; exact h) (Or.inl ⟨by rfl, ?_⟩) hHeld ?_
            rotate_left 1
            · intro wq hSw
              try dsimp only at hSw
              go_simp
              try (with_reducible rfl)
            try simp only [Act.put, List.setIfInBounds_toArray, List.set_cons_zero, List.set_cons_succ]
            refine wpAnyH_take (i := 11) (v := ?_) (by simp only [List.getElem?_toArray, List.getElem?_cons_succ, List.getElem?_cons_zero]; rfl) (by kernel_rfl) (by kernel_rfl) (by kernel_rfl) (by intro _ _ _ h; exact h) (Or.inl ⟨by rfl, ?_⟩) hHeld ?_
            rotate_left 1
            · intro wq hSw
              try dsimp only at hSw
              go_simp
              try (with_reducible rfl)
            try simp only [Act.put, List.setIfInBounds_toArray, List.set_cons_zero, List.set_cons_succ]
            refine wpAnyH_take (i := 12) (v := .pointer (some ⟨g, (j + 1) * 5, none⟩)) (by simp only [List.getElem?_toArray, List.getElem?_cons_succ, List.getElem?_cons_zero]; rfl) (by kernel_rfl) (by kernel_rfl) (by kernel_rfl) (by intro _ _ _ h; exact h) (Or.inl ⟨by rfl, ?_⟩) hHeld ?_
            · intro wq hSw
              try dsimp only at hSw
              go_simp
              all_goals (first | (with_reducible rfl) | (intro hh; exfalso; omega))
            try simp only [Act.put, List.setIfInBounds_toArray, List.set_cons_zero, List.set_cons_succ]
            refine wpAnyH_ready (rs := [9, 13]) (by kernel_rfl) (by simp) ?_
            refine AllReadyH.cons (by simp only [List.getElem?_toArray, List.getElem?_cons_succ, List.getElem?_cons_zero]; rfl) (fun K hK => ?_) (AllReadyH.cons (by simp only [List.getElem?_toArray, List.getElem?_cons_succ, List.getElem?_cons_zero]; rfl) (fun K hK => ?_) AllReadyH.nil)
            · skip
              go_simp
              refine hK.out _ _ (trivial) (fun hHeld => ?_)
              clear hK K
              try dsimp only at hHeld
              try simp only [Act.put, List.setIfInBounds_toArray, List.set_cons_zero, List.set_cons_succ]
              refine wpAnyH_ready (rs := [13]) (by kernel_rfl) (by simp) ?_
              refine AllReadyH.cons (by simp only [List.getElem?_toArray, List.getElem?_cons_succ, List.getElem?_cons_zero]; rfl) (fun K hK => ?_) AllReadyH.nil
              go_simp
              refine hK.out _ _ (trivial) (fun hHeld => ?_)
              clear hK K
              try dsimp only at hHeld
              try simp only [Act.put, List.setIfInBounds_toArray, List.set_cons_zero, List.set_cons_succ]
              refine wpAnyH_take (i := 14) (v := .pointer (some ⟨g, (j + 1) * 5, none⟩)) (by simp only [List.getElem?_toArray, List.getElem?_cons_succ, List.getElem?_cons_zero]; rfl) (by kernel_rfl) (by kernel_rfl) (by kernel_rfl) (by intro _ _ _ h; exact h) (Or.inl ⟨by rfl, ?_⟩) hHeld ?_
              · intro wq hSw
                try dsimp only at hSw
                go_simp
                all_goals (first | (with_reducible rfl) | (intro hh; exfalso; omega))
              try simp only [Act.put, List.setIfInBounds_toArray, List.set_cons_zero, List.set_cons_succ]
              refine wpAnyH_ready (rs := [15]) (by kernel_rfl) (by simp) ?_
              refine AllReadyH.cons (by simp only [List.getElem?_toArray, List.getElem?_cons_succ, List.getElem?_cons_zero]; rfl) (fun K hK => ?_) AllReadyH.nil
              go_simp
              have R1 : Ro fndE F 28 (((((wd.setCell ⟨g, (j + 1) * 5, none⟩ (.int .i64 y.r.k)).setCell ⟨g, (j + 1) * 5 + 1, none⟩ (.int .i64 y.r.s)).setCell ⟨g, (j + 1) * 5 + 2, none⟩ (.slice Ay y.r.l.length cy)).setCell ⟨g, (j + 1) * 5 + 3, none⟩ (.int .i64 y.zn)).setCell ⟨g, (j + 1) * 5 + 4, none⟩ (.int .i64 y.at_)) g ((stK (xs.take a) S (xs.drop (a + m + 1)) x (q + 1)).set (j + 1) y) := Ro.set hR (i := j + 1) hjl.out hy
              have u1 : Bts g w (((((wd.setCell ⟨g, (j + 1) * 5, none⟩ (.int .i64 y.r.k)).setCell ⟨g, (j + 1) * 5 + 1, none⟩ (.int .i64 y.r.s)).setCell ⟨g, (j + 1) * 5 + 2, none⟩ (.slice Ay y.r.l.length cy)).setCell ⟨g, (j + 1) * 5 + 3, none⟩ (.int .i64 y.zn)).setCell ⟨g, (j + 1) * 5 + 4, none⟩ (.int .i64 y.at_)) := ((((hu.set _ _).set _ _).set _ _).set _ _).set _ _
              have hx2 : fndE.rd (fun b => F b ∧ b ≠ g) (((((wd.setCell ⟨g, (j + 1) * 5, none⟩ (.int .i64 y.r.k)).setCell ⟨g, (j + 1) * 5 + 1, none⟩ (.int .i64 y.r.s)).setCell ⟨g, (j + 1) * 5 + 2, none⟩ (.slice Ay y.r.l.length cy)).setCell ⟨g, (j + 1) * 5 + 3, none⟩ (.int .i64 y.zn)).setCell ⟨g, (j + 1) * 5 + 4, none⟩ (.int .i64 y.at_)) [.int .i64 x.r.k, .int .i64 x.r.s, .slice Ax x.r.l.length cx, .int .i64 x.zn, .int .i64 x.at_] x := fndE.keep hx (setL_but wd g ((j + 1) * 5) [.int .i64 y.r.k, .int .i64 y.r.s, .slice Ay y.r.l.length cy, .int .i64 y.zn, .int .i64 y.at_]).size (fun p hp hF => (setL_but wd g ((j + 1) * 5) [.int .i64 y.r.k, .int .i64 y.r.s, .slice Ay y.r.l.length cy, .int .i64 y.zn, .int .i64 y.at_]).cell hp hF.2)
              generalize (((((wd.setCell ⟨g, (j + 1) * 5, none⟩ (.int .i64 y.r.k)).setCell ⟨g, (j + 1) * 5 + 1, none⟩ (.int .i64 y.r.s)).setCell ⟨g, (j + 1) * 5 + 2, none⟩ (.slice Ay y.r.l.length cy)).setCell ⟨g, (j + 1) * 5 + 3, none⟩ (.int .i64 y.zn)).setCell ⟨g, (j + 1) * 5 + 4, none⟩ (.int .i64 y.at_)) = w3 at *
              refine hK.out _ _ (trivial) (fun hHeld => ?_)
              clear hK K
              try dsimp only at hHeld
              obtain ⟨Az, cz, _, z0, z1, z2, z3, z4⟩ := Ro.fnd_at R1 hzg.out
              have e0 := R1.frozen (j * 5)
              have e1 := R1.frozen (j * 5 + 1)
              have e2 := R1.frozen (j * 5 + 2)
              have e3 := R1.frozen (j * 5 + 3)
              have e4 := R1.frozen (j * 5 + 4)
              try simp only [Act.put, List.setIfInBounds_toArray, List.set_cons_zero, List.set_cons_succ]
              refine wpAnyH_take (i := 16) (v := .pointer (some ⟨g, j * 5, none⟩)) (by simp only [List.getElem?_toArray, List.getElem?_cons_succ, List.getElem?_cons_zero]; rfl) (by kernel_rfl) (by kernel_rfl) (by kernel_rfl) (by intro _ _ _ h; exact h) (Or.inl ⟨by rfl, ?_⟩) hHeld ?_
              · intro wq hSw
                try dsimp only at hSw
                go_simp
                all_goals (first | (with_reducible rfl) | (intro hh; exfalso; omega))
              try simp only [Act.put, List.setIfInBounds_toArray, List.set_cons_zero, List.set_cons_succ]
              refine wpAnyH_ready (rs := [17]) (by kernel_rfl) (by simp) ?_
              refine AllReadyH.cons (by simp only [List.getElem?_toArray, List.getElem?_cons_succ, List.getElem?_cons_zero]; rfl) (fun K hK => ?_) AllReadyH.nil
              go_simp
              have R2 : Ro fndE F 28 (((((w3.setCell ⟨g, j * 5, none⟩ (.int .i64 x.r.k)).setCell ⟨g, j * 5 + 1, none⟩ (.int .i64 x.r.s)).setCell ⟨g, j * 5 + 2, none⟩ (.slice Ax x.r.l.length cx)).setCell ⟨g, j * 5 + 3, none⟩ (.int .i64 x.zn)).setCell ⟨g, j * 5 + 4, none⟩ (.int .i64 x.at_)) g (((stK (xs.take a) S (xs.drop (a + m + 1)) x (q + 1)).set (j + 1) y).set j x) := Ro.set R1 (i := j) (by rw [List.length_set]; have := hjl.out; omega) hx2
              have u2 : Bts g w (((((w3.setCell ⟨g, j * 5, none⟩ (.int .i64 x.r.k)).setCell ⟨g, j * 5 + 1, none⟩ (.int .i64 x.r.s)).setCell ⟨g, j * 5 + 2, none⟩ (.slice Ax x.r.l.length cx)).setCell ⟨g, j * 5 + 3, none⟩ (.int .i64 x.zn)).setCell ⟨g, j * 5 + 4, none⟩ (.int .i64 x.at_)) := ((((u1.set _ _).set _ _).set _ _).set _ _).set _ _
              rw [hstep.out] at R2
              clear z0 z1 z2 z3 z4 e0 e1 e2 e3 e4 R1 u1
              generalize (((((w3.setCell ⟨g, j * 5, none⟩ (.int .i64 x.r.k)).setCell ⟨g, j * 5 + 1, none⟩ (.int .i64 x.r.s)).setCell ⟨g, j * 5 + 2, none⟩ (.slice Ax x.r.l.length cx)).setCell ⟨g, j * 5 + 3, none⟩ (.int .i64 x.zn)).setCell ⟨g, j * 5 + 4, none⟩ (.int .i64 x.at_)) = w4 at *
              refine hK.out _ _ (trivial) (fun hHeld => ?_)
              clear hK K
              try dsimp only at hHeld
              try simp only [Act.put, List.setIfInBounds_toArray, List.set_cons_zero, List.set_cons_succ]
              refine wpAnyH_done (by kernel_rfl) ?_ _
              go_wp2
              go_roundg q
              case measure => omega
              case rel => exact ⟨q, j, rfl, by omega, hjq, by first | rfl | (simp; done), hal2, R2, u2⟩
            · skip
              go_simp
              refine hK.out _ _ (trivial) (fun hHeld => ?_)
              clear hK K
              try dsimp only at hHeld
              try simp only [Act.put, List.setIfInBounds_toArray, List.set_cons_zero, List.set_cons_succ]
              refine wpAnyH_ready (rs := [9]) (by kernel_rfl) (by simp) ?_
              refine AllReadyH.cons (by simp only [List.getElem?_toArray, List.getElem?_cons_succ, List.getElem?_cons_zero]; rfl) (fun K hK => ?_) AllReadyH.nil
              go_simp
              refine hK.out _ _ (trivial) (fun hHeld => ?_)
              clear hK K
              try dsimp only at hHeld
              try simp only [Act.put, List.setIfInBounds_toArray, List.set_cons_zero, List.set_cons_succ]
              refine wpAnyH_take (i := 14) (v := .pointer (some ⟨g, (j + 1) * 5, none⟩)) (by simp only [List.getElem?_toArray, List.getElem?_cons_succ, List.getElem?_cons_zero]; rfl) (by kernel_rfl) (by kernel_rfl) (by kernel_rfl) (by intro _ _ _ h; exact h) (Or.inl ⟨by rfl, ?_⟩) hHeld ?_
              · intro wq hSw
                try dsimp only at hSw
                go_simp
                all_goals (first | (with_reducible rfl) | (intro hh; exfalso; omega))
              try simp only [Act.put, List.setIfInBounds_toArray, List.set_cons_zero, List.set_cons_succ]
              refine wpAnyH_ready (rs := [15]) (by kernel_rfl) (by simp) ?_
              refine AllReadyH.cons (by simp only [List.getElem?_toArray, List.getElem?_cons_succ, List.getElem?_cons_zero]; rfl) (fun K hK => ?_) AllReadyH.nil
              go_simp
              have R1 : Ro fndE F 28 (((((wd.setCell ⟨g, (j + 1) * 5, none⟩ (.int .i64 y.r.k)).setCell ⟨g, (j + 1) * 5 + 1, none⟩ (.int .i64 y.r.s)).setCell ⟨g, (j + 1) * 5 + 2, none⟩ (.slice Ay y.r.l.length cy)).setCell ⟨g, (j + 1) * 5 + 3, none⟩ (.int .i64 y.zn)).setCell ⟨g, (j + 1) * 5 + 4, none⟩ (.int .i64 y.at_)) g ((stK (xs.take a) S (xs.drop (a + m + 1)) x (q + 1)).set (j + 1) y) := Ro.set hR (i := j + 1) hjl.out hy
              have u1 : Bts g w (((((wd.setCell ⟨g, (j + 1) * 5, none⟩ (.int .i64 y.r.k)).setCell ⟨g, (j + 1) * 5 + 1, none⟩ (.int .i64 y.r.s)).setCell ⟨g, (j + 1) * 5 + 2, none⟩ (.slice Ay y.r.l.length cy)).setCell ⟨g, (j + 1) * 5 + 3, none⟩ (.int .i64 y.zn)).setCell ⟨g, (j + 1) * 5 + 4, none⟩ (.int .i64 y.at_)) := ((((hu.set _ _).set _ _).set _ _).set _ _).set _ _
              have hx2 : fndE.rd (fun b => F b ∧ b ≠ g) (((((wd.setCell ⟨g, (j + 1) * 5, none⟩ (.int .i64 y.r.k)).setCell ⟨g, (j + 1) * 5 + 1, none⟩ (.int .i64 y.r.s)).setCell ⟨g, (j + 1) * 5 + 2, none⟩ (.slice Ay y.r.l.length cy)).setCell ⟨g, (j + 1) * 5 + 3, none⟩ (.int .i64 y.zn)).setCell ⟨g, (j + 1) * 5 + 4, none⟩ (.int .i64 y.at_)) [.int .i64 x.r.k, .int .i64 x.r.s, .slice Ax x.r.l.length cx, .int .i64 x.zn, .int .i64 x.at_] x := fndE.keep hx (setL_but wd g ((j + 1) * 5) [.int .i64 y.r.k, .int .i64 y.r.s, .slice Ay y.r.l.length cy, .int .i64 y.zn, .int .i64 y.at_]).size (fun p hp hF => (setL_but wd g ((j + 1) * 5) [.int .i64 y.r.k, .int .i64 y.r.s, .slice Ay y.r.l.length cy, .int .i64 y.zn, .int .i64 y.at_]).cell hp hF.2)
              generalize (((((wd.setCell ⟨g, (j + 1) * 5, none⟩ (.int .i64 y.r.k)).setCell ⟨g, (j + 1) * 5 + 1, none⟩ (.int .i64 y.r.s)).setCell ⟨g, (j + 1) * 5 + 2, none⟩ (.slice Ay y.r.l.length cy)).setCell ⟨g, (j + 1) * 5 + 3, none⟩ (.int .i64 y.zn)).setCell ⟨g, (j + 1) * 5 + 4, none⟩ (.int .i64 y.at_)) = w3 at *
              refine hK.out _ _ (trivial) (fun hHeld => ?_)
              clear hK K
              try dsimp only at hHeld
              obtain ⟨Az, cz, _, z0, z1, z2, z3, z4⟩ := Ro.fnd_at R1 hzg.out
              have e0 := R1.frozen (j * 5)
              have e1 := R1.frozen (j * 5 + 1)
              have e2 := R1.frozen (j * 5 + 2)
              have e3 := R1.frozen (j * 5 + 3)
              have e4 := R1.frozen (j * 5 + 4)
              try simp only [Act.put, List.setIfInBounds_toArray, List.set_cons_zero, List.set_cons_succ]
              refine wpAnyH_take (i := 16) (v := .pointer (some ⟨g, j * 5, none⟩)) (by simp only [List.getElem?_toArray, List.getElem?_cons_succ, List.getElem?_cons_zero]; rfl) (by kernel_rfl) (by kernel_rfl) (by kernel_rfl) (by intro _ _ _ h; exact h) (Or.inl ⟨by rfl, ?_⟩) hHeld ?_
              · intro wq hSw
                try dsimp only at hSw
                go_simp
                all_goals (first | (with_reducible rfl) | (intro hh; exfalso; omega))
              try simp only [Act.put, List.setIfInBounds_toArray, List.set_cons_zero, List.set_cons_succ]
              refine wpAnyH_ready (rs := [17]) (by kernel_rfl) (by simp) ?_
              refine AllReadyH.cons (by simp only [List.getElem?_toArray, List.getElem?_cons_succ, List.getElem?_cons_zero]; rfl) (fun K hK => ?_) AllReadyH.nil
              go_simp
              have R2 : Ro fndE F 28 (((((w3.setCell ⟨g, j * 5, none⟩ (.int .i64 x.r.k)).setCell ⟨g, j * 5 + 1, none⟩ (.int .i64 x.r.s)).setCell ⟨g, j * 5 + 2, none⟩ (.slice Ax x.r.l.length cx)).setCell ⟨g, j * 5 + 3, none⟩ (.int .i64 x.zn)).setCell ⟨g, j * 5 + 4, none⟩ (.int .i64 x.at_)) g (((stK (xs.take a) S (xs.drop (a + m + 1)) x (q + 1)).set (j + 1) y).set j x) := Ro.set R1 (i := j) (by rw [List.length_set]; have := hjl.out; omega) hx2
              have u2 : Bts g w (((((w3.setCell ⟨g, j * 5, none⟩ (.int .i64 x.r.k)).setCell ⟨g, j * 5 + 1, none⟩ (.int .i64 x.r.s)).setCell ⟨g, j * 5 + 2, none⟩ (.slice Ax x.r.l.length cx)).setCell ⟨g, j * 5 + 3, none⟩ (.int .i64 x.zn)).setCell ⟨g, j * 5 + 4, none⟩ (.int .i64 x.at_)) := ((((u1.set _ _).set _ _).set _ _).set _ _).set _ _
              rw [hstep.out] at R2
              clear z0 z1 z2 z3 z4 e0 e1 e2 e3 e4 R1 u1
              generalize (((((w3.setCell ⟨g, j * 5, none⟩ (.int .i64 x.r.k)).setCell ⟨g, j * 5 + 1, none⟩ (.int .i64 x.r.s)).setCell ⟨g, j * 5 + 2, none⟩ (.slice Ax x.r.l.length cx)).setCell ⟨g, j * 5 + 3, none⟩ (.int .i64 x.zn)).setCell ⟨g, j * 5 + 4, none⟩ (.int .i64 x.at_)) = w4 at *
              refine hK.out _ _ (trivial) (fun hHeld => ?_)
              clear hK K
              try dsimp only at hHeld
              try simp only [Act.put, List.setIfInBounds_toArray, List.set_cons_zero, List.set_cons_succ]
              refine wpAnyH_done (by kernel_rfl) ?_ _
              go_wp2
              go_roundg q
              case measure => omega
              case rel => exact ⟨q, j, rfl, by omega, hjq, by first | rfl | (simp; done), hal2, R2, u2⟩
          · obtain ⟨d, hcmp, hd0⟩ : ∃ d, cmpI x.r.s y.r.s = d ∧ 0 ≤ d := ⟨_, rfl, by rw [cmpI, if_neg hc1]; split <;> omega⟩
            have hLn : Hid (stK (xs.take a) S (xs.drop (a + m + 1)) x (q + 1) = xs.take a ++ (sortK seqK ((xs.drop a).take (m + 1)) ++ xs.drop (a + (m + 1)))) := hin.out (q + 1) (by omega) (insK_at seqK hSs.out (by omega) hal.out (fun q' y' e hy' => by
              obtain rfl : q' = q := by omega
              rw [hyq.out] at hy'
              cases hy'
              show y.r.s ≤ x.r.s
              omega))
            clear hin hal hSs hlen hc1 hxg hyg hzg hstep
            go_wp2_with fail
            refine wp_region_held_drew (S := fun w' => Below wr.heap.size wr w') (by kernel_rfl) (Below.refl _ _).drew (fun hHeld => ?_)
            try dsimp only at hHeld
            have bd : Below wr.heap.size wr wr.drew := (Below.refl wr.heap.size wr).drew
            generalize wr.drew = wd at *
            try simp only [Act.put, List.setIfInBounds_toArray, List.set_cons_zero, List.set_cons_succ]
            refine wpAnyH_take (i := 0) (v := ?_) (by simp only [List.getElem?_toArray, List.getElem?_cons_zero]; rfl) (by kernel_rfl) (by kernel_rfl) (by kernel_rfl) (by intro _ _ _ h; exact h) (Or.inl ⟨by rfl, ?_⟩) hHeld ?_
            rotate_left 1
            · intro wq hSw
              try dsimp only at hSw
              go_simp
              try (with_reducible rfl)
            try simp only [Act.put, List.setIfInBounds_toArray, List.set_cons_zero, List.set_cons_succ]
            refine wpAnyH_take (i := 1) (v := ?_) (by simp only [List.getElem?_toArray, List.getElem?_cons_succ, List.getElem?_cons_zero]; rfl) (by kernel_rfl) (by kernel_rfl) (by kernel_rfl) (by intro _ _ _ h; exact h) (Or.inl ⟨by rfl, ?_⟩) hHeld ?_
            rotate_left 1
            · intro wq hSw
              try dsimp only at hSw
              go_simp
              try (with_reducible rfl)
            try simp only [Act.put, List.setIfInBounds_toArray, List.set_cons_zero, List.set_cons_succ]
            refine wpAnyH_take (i := 2) (v := .bool true) (by simp only [List.getElem?_toArray, List.getElem?_cons_succ, List.getElem?_cons_zero]; rfl) (by kernel_rfl) (by kernel_rfl) (by kernel_rfl) (by intro _ _ _ h; exact h) (Or.inl ⟨by rfl, ?_⟩) hHeld ?_
            · intro wq hSw
              try dsimp only at hSw
              go_simp
              all_goals (first | (with_reducible rfl) | omega | (simp; done) | (simp; omega))
            try simp only [Act.put, List.setIfInBounds_toArray, List.set_cons_zero, List.set_cons_succ]
            refine wpAnyH_take (i := 3) (v := ?_) (by simp only [List.getElem?_toArray, List.getElem?_cons_succ, List.getElem?_cons_zero]; rfl) (by kernel_rfl) (by kernel_rfl) (by kernel_rfl) (by intro _ _ _ h; exact h) (Or.inl ⟨by rfl, ?_⟩) hHeld ?_
            rotate_left 1
            · intro wq hSw
              try dsimp only at hSw
              go_simp
              try (with_reducible rfl)
            try simp only [Act.put, List.setIfInBounds_toArray, List.set_cons_zero, List.set_cons_succ]
            refine wpAnyH_take (i := 4) (v := ?_) (by simp only [List.getElem?_toArray, List.getElem?_cons_succ, List.getElem?_cons_zero]; rfl) (by kernel_rfl) (by kernel_rfl) (by kernel_rfl) (by intro _ _ _ h; exact h) (Or.inl ⟨by rfl, ?_⟩) hHeld ?_
            rotate_left 1
            · intro wq hSw
              try dsimp only at hSw
              go_simp
              try (with_reducible rfl)
            try simp only [Act.put, List.setIfInBounds_toArray, List.set_cons_zero, List.set_cons_succ]
            refine wpAnyH_take (i := 5) (v := ?_) (by simp only [List.getElem?_toArray, List.getElem?_cons_succ, List.getElem?_cons_zero]; rfl) (by kernel_rfl) (by kernel_rfl) (by kernel_rfl) (by intro _ _ _ h; exact h) (Or.inl ⟨by rfl, ?_⟩) hHeld ?_
            rotate_left 1
            · intro wq hSw
              try dsimp only at hSw
              go_simp
              try (with_reducible rfl)
            try simp only [Act.put, List.setIfInBounds_toArray, List.set_cons_zero, List.set_cons_succ]
            refine wpAnyH_take (i := 6) (v := ?_) (by simp only [List.getElem?_toArray, List.getElem?_cons_succ, List.getElem?_cons_zero]; rfl) (by kernel_rfl) (by kernel_rfl) (by kernel_rfl) (by intro _ _ _ h; exact h) (Or.inl ⟨by rfl, ?_⟩) hHeld ?_
            rotate_left 1
            · intro wq hSw
              try dsimp only at hSw
              go_simp
              try (with_reducible rfl)
            try simp only [Act.put, List.setIfInBounds_toArray, List.set_cons_zero, List.set_cons_succ]
            refine wpAnyH_take (i := 7) (v := .pointer (some ⟨g, (j + 1) * 5, none⟩)) (by simp only [List.getElem?_toArray, List.getElem?_cons_succ, List.getElem?_cons_zero]; rfl) (by kernel_rfl) (by kernel_rfl) (by kernel_rfl) (by intro _ _ _ h; exact h) (Or.inl ⟨by rfl, ?_⟩) hHeld ?_
            · intro wq hSw
              try dsimp only at hSw
              go_simp
              all_goals (first | (with_reducible rfl) | (intro hh; exfalso; omega))
            try simp only [Act.put, List.setIfInBounds_toArray, List.set_cons_zero, List.set_cons_succ]
            refine wpAnyH_take (i := 8) (v := ?_) (by simp only [List.getElem?_toArray, List.getElem?_cons_succ, List.getElem?_cons_zero]; rfl) (by kernel_rfl) (by kernel_rfl) (by kernel_rfl) (by intro _ _ _ h; exact h) (Or.inl ⟨by rfl, ?_⟩) hHeld ?_
            rotate_left 1
            · intro wq hSw
              try dsimp only at hSw
              have x0' := (hSw.cell hlt).trans x0
              have x1' := (hSw.cell hlt).trans x1
              have x2' := (hSw.cell hlt).trans x2
              have x3' := (hSw.cell hlt).trans x3
              have x4' := (hSw.cell hlt).trans x4
              go_simp
              try (with_reducible rfl)
            try simp only [Act.put, List.setIfInBounds_toArray, List.set_cons_zero, List.set_cons_succ]
            refine wpAnyH_take (i := 9) (v := ?_) (by simp only [List.getElem?_toArray, List.getElem?_cons_succ, List.getElem?_cons_zero]; rfl) (by kernel_rfl) (by kernel_rfl) (by kernel_rfl) (by intro _ _ _ h; exact h) (Or.inl ⟨by rfl, ?_⟩) hHeld ?_
            rotate_left 1
            · intro wq hSw
              try dsimp only at hSw
              go_simp
              try (with_reducible rfl)
            try simp only [Act.put, List.setIfInBounds_toArray, List.set_cons_zero, List.set_cons_succ]
            refine wpAnyH_take (i := 10) (v := ?_) (by simp only [List.getElem?_toArray, List.getElem?_cons_succ, List.getElem?_cons_zero]; rfl) (by kernel_rfl) (by kernel_rfl) (by kernel_rfl) (by intro _ _ _ h; exact h) (Or.inl ⟨by rfl, ?_⟩) hHeld ?_
            rotate_left 1
            · intro wq hSw
              try dsimp only at hSw
              go_simp
              try (with_reducible rfl)
            try simp only [Act.put, List.setIfInBounds_toArray, List.set_cons_zero, List.set_cons_succ]
            refine wpAnyH_take (i := 11) (v := .int .i64 (j : Int)) (by simp only [List.getElem?_toArray, List.getElem?_cons_succ, List.getElem?_cons_zero]; rfl) (by kernel_rfl) (by kernel_rfl) (by kernel_rfl) (by intro _ _ _ h; exact h) (Or.inl ⟨by rfl, ?_⟩) hHeld ?_
            · intro wq hSw
              try dsimp only at hSw
              go_simp
              all_goals (first | (with_reducible rfl) | (rw [wrapi64 (by omega) (by omega)]) | exact wrapi64 (by omega) (by omega))
            try simp only [Act.put, List.setIfInBounds_toArray, List.set_cons_zero, List.set_cons_succ]
            refine wpAnyH_take (i := 12) (v := .pointer (some ⟨g, j * 5, none⟩)) (by simp only [List.getElem?_toArray, List.getElem?_cons_succ, List.getElem?_cons_zero]; rfl) (by kernel_rfl) (by kernel_rfl) (by kernel_rfl) (by intro _ _ _ h; exact h) (Or.inl ⟨by rfl, ?_⟩) hHeld ?_
            · intro wq hSw
              try dsimp only at hSw
              go_simp
              all_goals (first | (with_reducible rfl) | (intro hh; exfalso; omega))
            try simp only [Act.put, List.setIfInBounds_toArray, List.set_cons_zero, List.set_cons_succ]
            refine wpAnyH_take (i := 13) (v := ?_) (by simp only [List.getElem?_toArray, List.getElem?_cons_succ, List.getElem?_cons_zero]; rfl) (by kernel_rfl) (by kernel_rfl) (by kernel_rfl) (by intro _ _ _ h; exact h) (Or.inl ⟨by rfl, ?_⟩) hHeld ?_
            rotate_left 1
            · intro wq hSw
              try dsimp only at hSw
              have y0' := (hSw.cell hlt).trans y0
              have y1' := (hSw.cell hlt).trans y1
              have y2' := (hSw.cell hlt).trans y2
              have y3' := (hSw.cell hlt).trans y3
              have y4' := (hSw.cell hlt).trans y4
              go_simp
              try (with_reducible rfl)
            try simp only [Act.put, List.setIfInBounds_toArray, List.set_cons_zero, List.set_cons_succ]
            refine wpAnyH_ready (rs := [14]) (by kernel_rfl) (by simp) ?_
            refine AllReadyH.cons (by simp only [List.getElem?_toArray, List.getElem?_cons_succ, List.getElem?_cons_zero]; rfl) (fun K hK => ?_) AllReadyH.nil
            have hC := gAll1_any x y Ax Ay cx cy wd
            go_simp
            refine hC.mono ?_
            clear hC
            rintro e w2 ⟨rfl, b2⟩
            rw [hcmp]
            go_wp2_with fail
            refine hK.out _ _ (bd.trans (b2.mono bd.size)) (fun hHeld => ?_)
            clear hK K
            try dsimp only at hHeld
            try simp only [Act.put, List.setIfInBounds_toArray, List.set_cons_zero, List.set_cons_succ]
            refine wpAnyH_take (i := 15) (v := .bool false) (by simp only [List.getElem?_toArray, List.getElem?_cons_succ, List.getElem?_cons_zero]; rfl) (by kernel_rfl) (by kernel_rfl) (by kernel_rfl) (by intro _ _ _ h; exact h) (Or.inl ⟨by rfl, ?_⟩) hHeld ?_
            · intro wq hSw
              try dsimp only at hSw
              go_simp
              all_goals (first | (with_reducible rfl) | omega | (simp; done) | (simp; omega))
            try simp only [Act.put, List.setIfInBounds_toArray, List.set_cons_zero, List.set_cons_succ]
            refine wpAnyH_take (i := 16) (v := ?_) (by simp only [List.getElem?_toArray, List.getElem?_cons_succ, List.getElem?_cons_zero]; rfl) (by kernel_rfl) (by kernel_rfl) (by kernel_rfl) (by intro _ _ _ h; exact h) (Or.inl ⟨by rfl, ?_⟩) hHeld ?_
            rotate_left 1
            · intro wq hSw
              try dsimp only at hSw
              go_simp
              try (with_reducible rfl)
            try simp only [Act.put, List.setIfInBounds_toArray, List.set_cons_zero, List.set_cons_succ]
            refine wpAnyH_done (by kernel_rfl) ?_ _
            have b3 := bd.trans (b2.mono bd.size)
            replace hR := hR.under b3
            replace hu := hu.call b3
            clear x0 x1 x2 x3 x4 y0 y1 y2 y3 y4 hHeld b3 b2 bd
            go_wp2
            go_roundg gq
            case measure => omega
            case rel => exact ⟨i + 1, m + 1, _, by omega, by omega, by have := hi.out; show i + 1 = a + (m + 1); omega, fun _ => by have := hi.out; omega, by first | rfl | (simp; done) | (simp; omega), hLn, hR, hu⟩
    · have hLy : L = ys := by
        rw [hL.out, hys.out]
        by_cases hab2 : a = b
        · subst hab2
          obtain rfl : m = 1 := by omega
          rw [← hL1.out]
          simp [sortK]
        · have e4 : (xs.take b).drop a = (xs.drop a).take (b - a) := by rw [List.drop_take]
          have := hi.out
          have := hmb.out
          rw [e4, show m = b - a by omega, show a + (b - a) = b by omega]
      subst hLy
      go_wp2
      go_end0
      exact ⟨rfl, hR, hu⟩
end Go.Proofs.YtnejiclghnigiaaDoor
namespace Go.Proofs.YtnejiclghnigiaaDoor
open Go.RowKit Go.Wag
set_option linter.unusedVariables false
set_option maxRecDepth 20000

set_option maxHeartbeats 1000000 in
theorem gIns_none (A : Option Addr) (n c : Nat) (w : World) : Calls Tryd.prog 69 #[.slice A n c, .int .i64 0, .int .i64 0, .func (.func 36) #[] #[]] w fun e w' => e = .returned (.tuple #[]) ∧ w = w' := by
  go_enter Tryd.func69, Tryd.ntmps69
  go_wp2_with fail
  go_loopg [8] 1 (fun gk iv wr => iv = .int .i64 1 ∧ w = wr)
  case atStart => exact ⟨by first | rfl | (simp; done), rfl⟩
  case round =>
    obtain ⟨rfl, rfl⟩ := hrel
    go_wp2
    go_end0
    exact ⟨rfl, rfl⟩

set_option maxHeartbeats 1000000 in
theorem gStable_none (A : Option Addr) (c : Nat) (w : World) : Calls Tryd.prog 56 #[.slice A 0 c, .int .i64 0, .func (.func 36) #[] #[]] w fun e w' => e = .returned (.tuple #[]) ∧ w = w' := by
  go_enter Tryd.func56, Tryd.ntmps56
  go_wp2_with fail
  go_loopg [7, 8] 1 (fun gk av bv wr => av = .int .i64 0 ∧ bv = .int .i64 20 ∧ w = wr)
  case atStart => exact ⟨rfl, rfl, rfl⟩
  case round =>
    obtain ⟨rfl, rfl, rfl⟩ := hrel
    go_wp2_with fail
    refine (gIns_none A 0 c w).mono ?_
    rintro e w1 ⟨rfl, rfl⟩
    go_wp2_with fail
    go_loopg [6] 1 (fun gk av wr => av = .int .i64 20 ∧ w = wr)
    case atStart => exact ⟨rfl, rfl⟩
    case round =>
      obtain ⟨rfl, rfl⟩ := hrel
      go_wp2
      go_end0
      exact ⟨rfl, rfl⟩

set_option maxHeartbeats 2000000 in
theorem gStable_any {F : Nat → Prop} (g : Nat) (n c : Nat) (xs : List Fp) (w : World) (h : Ro fndE F 28 w g xs) (hn : xs.length = n) (hc : n ≤ c) (hcb : c ≤ 9223372036854775807) (hn2 : n ≤ 20) :
    Calls Tryd.prog 56 #[.slice (some ⟨g, 0, none⟩) n c, .int .i64 (n : Int), .func (.func 36) #[] #[]] w (SortPost F w g (sortK seqK xs)) := by
  have e0 : Hid (xs.take 0 ++ (sortK seqK ((xs.take n).drop 0) ++ xs.drop n) = sortK seqK xs) := by
    show _ = _
    rw [List.take_zero, List.drop_zero, List.take_of_length_le (by omega), List.drop_of_length_le (by omega), List.nil_append, List.append_nil]
  obtain ⟨ys, hys⟩ : ∃ y, Hid (y = sortK seqK xs) := ⟨_, rfl⟩
  rw [← hys.out]
  rw [← hys.out] at e0
  have hyl : ys.length = n := by rw [hys.out, sortK_length, hn]
  clear hys
  go_enter Tryd.func56, Tryd.ntmps56
  go_wp2_with fail
  by_cases hlt : n < 20
  · go_loopg [7, 8] 1 (fun gk av bv wr => av = .int .i64 0 ∧ bv = .int .i64 20 ∧ w = wr)
    case atStart => exact ⟨rfl, rfl, rfl⟩
    case round =>
      obtain ⟨rfl, rfl, rfl⟩ := hrel
      have hC := gIns_any g n c xs 0 n w h hn hc hcb (by omega) (Nat.le_refl _) (by omega)
      rw [e0.out] at hC
      go_wp2_with fail
      refine hC.mono ?_
      clear hC
      rintro e w1 ⟨rfl, R1, u1⟩
      go_wp2_with fail
      go_loopg [6] 1 (fun gk av wr => av = .int .i64 20 ∧ w1 = wr)
      case atStart => exact ⟨rfl, rfl⟩
      case round =>
        obtain ⟨rfl, rfl⟩ := hrel
        go_wp2
        go_end0
        exact ⟨rfl, R1, u1⟩
  · obtain rfl : 20 = n := by omega
    have e1 : Hid (ys.take 20 ++ (sortK seqK ((ys.take 20).drop 20) ++ ys.drop 20) = ys) := by
      show _ = _
      rw [List.drop_of_length_le (by rw [List.length_take]; omega), List.drop_of_length_le (by omega), List.take_of_length_le (by omega)]
      simp [sortK]
    go_loopg [7, 8] 2 (fun gk av bv wr => (gk = 2 ∧ av = .int .i64 0 ∧ bv = .int .i64 20 ∧ w = wr) ∨ (gk = 1 ∧ av = .int .i64 20 ∧ bv = .int .i64 40 ∧ Ro fndE F 28 wr g ys ∧ Bts g w wr))
    case atStart => exact .inl ⟨rfl, rfl, rfl, rfl⟩
    case round =>
      rcases hrel with ⟨rfl, rfl, rfl, rfl⟩ | ⟨rfl, rfl, rfl, R1, u1⟩
      · have hC := gIns_any g 20 c xs 0 20 w h hn hc hcb (by omega) (Nat.le_refl _) (by omega)
        rw [e0.out] at hC
        go_wp2_with fail
        refine hC.mono ?_
        clear hC
        rintro e w1 ⟨rfl, R1, u1⟩
        go_wp2
        go_roundg 1
        case measure => omega
        case rel => exact .inr ⟨rfl, rfl, by first | rfl | (simp; done), R1, u1⟩
      · have hC := gIns_any g 20 c ys 20 20 wr R1 hyl hc hcb (Nat.le_refl _) (Nat.le_refl _) (by omega)
        rw [e1.out] at hC
        go_wp2_with fail
        refine hC.mono ?_
        clear hC
        rintro e w1 ⟨rfl, R2, u2⟩
        replace u1 := u1.trans u2
        go_wp2_with fail
        go_loopg [6] 1 (fun gk av wr => av = .int .i64 20 ∧ w1 = wr)
        case atStart => exact ⟨rfl, rfl⟩
        case round =>
          obtain ⟨rfl, rfl⟩ := hrel
          go_wp2
          go_end0
          exact ⟨rfl, R2, u1⟩

set_option maxHeartbeats 1000000 in
theorem gSort_any {B : Nat} (A : Option Addr) (n c : Nat) (xs : List Fp) (w : World) (h : Rq fndE (fun b => B ≤ b) B 28 w A n c xs) (hn2 : n ≤ 20) (hB : B ≤ w.heap.size) :
    Calls Tryd.prog 35 #[.slice A n c, .func (.func 36) #[] #[]] w fun e w' => e = .returned (.tuple #[]) ∧ Rs fndE (fun b => B ≤ b) w' A n c (sortK seqK xs) ∧ Below B w w' := by
  rcases Nat.eq_zero_or_pos n with hn | hn
  · subst hn
    have hx : xs = [] := List.eq_nil_of_length_eq_zero h.len
    have hR := h.toRs (fun b _ hb => hb)
    rw [hx] at hR
    rw [hx]
    go_enter Tryd.func35, Tryd.ntmps35
    go_wp2_with fail
    refine (gStable_none A c w).mono ?_
    rintro e w1 ⟨rfl, rfl⟩
    go_wp2
    go_end0
    exact ⟨rfl, hR, Below.refl _ _⟩
  · obtain ⟨g, rfl, hBg, hc, hcb, hR⟩ := h.toRo hn
    have hl := h.len
    go_enter Tryd.func35, Tryd.ntmps35
    go_wp2_with fail
    refine (gStable_any g n c xs w hR hl hc hcb hn2).mono ?_
    rintro e w1 ⟨rfl, R1, u1⟩
    go_wp2
    go_end0
    exact ⟨rfl, R1.toRs (by rw [sortK_length, hl]) hc hcb hBg, u1.below hBg hB⟩

/-- The records of zone i, as they are found. -/
def zoneF (i : Nat) (z : Zp) : List Fp := (scF z.l 0).map fun x => ⟨x.1, (i : Int), (x.2 : Int)⟩
def rawG : Nat → List Zp → List Fp
  | _, [] => []
  | i, z :: zs => zoneF i z ++ rawG (i + 1) zs
def allF (zs : List Zp) : List Fp := sortK seqK (rawG 0 zs)
/-- What All answers. -/
def AllPost (w : World) (xs : List Fp) (er : Int) (e : Ending) (w' : World) : Prop :=
  ∃ A k c, k = xs.length ∧ e = .returned (.tuple #[.slice A k c, .int .i64 er]) ∧ Rs fndE (fun b => w.heap.size ≤ b) w' A k c xs ∧ Below w.heap.size w w'
theorem iFnd : ∃ i, Tryd.prog.info? 28 = some i ∧ i.zero = some (.agg #[.int .i64 0, .int .i64 0, .slice none 0 0, .int .i64 0, .int .i64 0]) ∧ i.size = 5 ∧ i.bytes = 56 := by
  refine ⟨_, rfl, ?_, ?_, ?_⟩
  · kernel_rfl
  · kernel_rfl
  · kernel_rfl
theorem one_fnd (a b z p : Int) (A : Option Addr) (n c : Nat) : ∀ u ∈ [Value.int .i64 a, .int .i64 b, .slice A n c, .int .i64 z, .int .i64 p], u.oneCell' = true := by
  intro u hu
  simp only [List.mem_cons, List.not_mem_nil, or_false] at hu
  rcases hu with rfl | rfl | rfl | rfl | rfl <;> rfl
abbrev natE : Elt Nat := cellE (fun p : Nat => vint (p : Int))
theorem nat_rs {w0 w : World} {t : TypeId} {A : Option Addr} {n c : Nat} {xs : List (Rp × Nat)} (hl : n = xs.length) (h : Nw t w0 w A n c (xs.map fun x => vint x.2)) : Rs natE (fun b => w0.heap.size ≤ b) w A n c (xs.map Prod.snd) := by
  have hq : Rq natE (fun b => w0.heap.size ≤ b) w0.heap.size t w A n c (xs.map Prod.snd) := ⟨by rw [List.length_map, hl], _, h, fun i x hi => by
    refine ⟨[vint (x : Int)], rfl, fun j v hj => ?_⟩
    rw [List.getElem?_map, Option.map_eq_some_iff] at hi
    obtain ⟨y, hy, rfl⟩ := hi
    have hj0 : j = 0 := by
      have := (List.getElem?_eq_some_iff.1 hj).1
      simp at this
      omega
    subst hj0
    have e : i * natE.k + 0 = i := by show i * 1 + 0 = i; omega
    rw [e, List.getElem?_map, hy]
    exact hj⟩
  exact hq.toRs (fun b _ hb => hb)

set_option maxHeartbeats 1000000 in
theorem gAll_no {F : Nat → Prop} (size lf dn : Int) (dw : Bool) (A : Option Addr) (n c : Nat) (zs : List Zp) (w : World) (h : Zs F w A n c zs) (hd : devF size zs = false) :
    Calls Tryd.prog 17 #[.agg #[.int .i64 size, .slice A n c, .int .i64 lf, .bool dw, .int .i64 dn]] w (AllPost w [] 1) := by
  have a0 := (Below.refl w.heap.size w).alloc (Nat.le_refl _) (.cells #[.int .i64 size, .slice A n c, .int .i64 lf, .bool dw, .int .i64 dn] 36)
  have B0 := Blk.new w #[.int .i64 size, .slice A n c, .int .i64 lf, .bool dw, .int .i64 dn] 36
  obtain ⟨p0, p1, p2, p3, p4, _⟩ := B0.five
  replace h := h.below a0
  go_enter Tryd.func17, Tryd.ntmps17
  go_wp2_with fail
  generalize w.alloc (.cells #[.int .i64 size, .slice A n c, .int .i64 lf, .bool dw, .int .i64 dn] 36) = w0 at *
  refine (dCheck_at size lf dn dw A n c zs false w0 h hd).mono ?_
  rintro e w1 ⟨rfl, b1⟩
  clear p0 p1 p2 p3 p4
  go_wp2
  go_ret2
  exact ⟨_, _, _, rfl, rfl, Rs.nil _ _ _, a0.trans (b1.mono a0.size)⟩

set_option maxHeartbeats 4000000 in
theorem gAll_any {F : Nat → Prop} (size lf dn : Int) (dw : Bool) (A : Option Addr) (n c : Nat) (zs : List Zp) (xs : List Fp) (w : World) (hT : Tab w) (h : Zs F w A n c zs) (hd : devF size zs = true) (hx : allF zs = xs) (hl : (rawG 0 zs).length ≤ 20) :
    Calls Tryd.prog 17 #[.agg #[.int .i64 size, .slice A n c, .int .i64 lf, .bool dw, .int .i64 dn]] w (AllPost w xs 0) := by
  obtain ⟨iC, hiC, hzC, hsC, hbC⟩ := iFnd
  have hsm := sm_dev hd
  have hlen := h.len
  have hcap := h.cap
  have hbig := h.big
  obtain ⟨raw, hraw⟩ : ∃ r, Hid (r = rawG 0 zs) := ⟨_, rfl⟩
  have hxs : Hid (sortK seqK raw = xs) := by
    show _ = _
    rw [hraw.out]
    exact hx
  have hrl : Hid (raw.length ≤ 20) := by
    show _ ≤ _
    rw [hraw.out]
    exact hl
  have hr0 : Hid (raw = [] ++ rawG 0 (zs.drop 0)) := by
    show raw = _
    rw [hraw.out]
    rfl
  clear hraw hx hl
  have a0 := (Below.refl w.heap.size w).alloc (Nat.le_refl _) (.cells #[.int .i64 size, .slice A n c, .int .i64 lf, .bool dw, .int .i64 dn] 36)
  have B0 := Blk.new w #[.int .i64 size, .slice A n c, .int .i64 lf, .bool dw, .int .i64 dn] 36
  obtain ⟨p0, p1, p2, p3, p4, _⟩ := B0.five
  replace h := h.below a0
  have hT0 := hT.below a0
  go_enter Tryd.func17, Tryd.ntmps17
  go_wp2_with fail
  generalize w.alloc (.cells #[.int .i64 size, .slice A n c, .int .i64 lf, .bool dw, .int .i64 dn] 36) = w0 at *
  refine (dCheck_at size lf dn dw A n c zs true w0 h hd).mono ?_
  rintro e w1 ⟨rfl, b1⟩
  clear p0 p1 p2 p3 p4
  have hT1 := hT0.below b1
  replace h := h.below b1
  replace B0 := B0.under b1
  have bb := a0.trans (b1.mono a0.size)
  have hw1 : w.heap.size + 1 ≤ w1.heap.size := B0.lt
  obtain ⟨p0, p1, p2, p3, p4, _⟩ := B0.five
  clear hT0 a0 b1 hT
  go_wp2_with fail
  clear p0 p1 p2 p3 p4 B0
  go_loopg [4, 17] n (fun gk av iv wr => ∃ (k : Nat) (Aa : Option Addr) (na ca : Nat) (ds : List Fp), k + gk = n ∧ av = .slice Aa na ca ∧ iv = .int .i64 (k : Int) ∧ Hid (raw = ds ++ rawG k (zs.drop k)) ∧ Rq fndE (fun b => w1.heap.size ≤ b) w1.heap.size 28 wr Aa na ca ds ∧ Below w1.heap.size w1 wr)
  case atStart => exact ⟨0, none, 0, 0, [], by omega, rfl, rfl, hr0, Rq.nil _ _ _ _ _, Below.refl _ _⟩
  case round =>
    obtain ⟨k, Aa, na, ca, ds, hkg, rfl, rfl, hr, hR, bb2⟩ := hrel
    by_cases hlt : (k : Int) < (n : Int)
    · obtain ⟨g, rfl⟩ : ∃ g, gk = g + 1 := ⟨gk - 1, by omega⟩
      obtain ⟨gb, o, z, Ai, ci, rfl, hF, hg, hz, c0', c1', c2', c3', hS, hA⟩ := h.at_ (show k < n by omega)
      have c0 := (bb2.cell hg).trans c0'
      have c1 := (bb2.cell hg).trans c1'
      have c2 := (bb2.cell hg).trans c2'
      have c3 := (bb2.cell hg).trans c3'
      have hzb := hsm.at_ hz
      obtain ⟨sc, hsc⟩ : ∃ s, Hid (scF z.l 0 = s) := ⟨_, rfl⟩
      have hr2 : Hid (raw = ds ++ ((zoneF k z).drop 0 ++ rawG (k + 1) (zs.drop (k + 1)))) := by
        show raw = _
        obtain ⟨hk2, hz2⟩ := List.getElem?_eq_some_iff.1 hz
        rw [hr.out, List.drop_eq_getElem_cons hk2, hz2]
        rfl
      clear c0' c1' c2' c3' hz hA hF hr
      have al := (Below.refl wr.heap.size wr).alloc (Nat.le_refl _) (.cells #[.int .i64 z.st, .int .i64 z.rs, .slice Ai z.l.length ci, .int .i64 z.la] 56)
      have Bz := Blk.new wr #[.int .i64 z.st, .int .i64 z.rs, .slice Ai z.l.length ci, .int .i64 z.la] 56
      obtain ⟨v0, v1, v2, v3, _⟩ := Bz.four
      have bb3 := bb2.alloc bb2.size (.cells #[.int .i64 z.st, .int .i64 z.rs, .slice Ai z.l.length ci, .int .i64 z.la] 56)
      have hS2 := hS.below bb3
      have hT2 := hT1.below bb3
      have hR2 := hR.under al
      have hal := al.size
      go_wp2_with fail
      generalize wr.alloc (.cells #[.int .i64 z.st, .int .i64 z.rs, .slice Ai z.l.length ci, .int .i64 z.la] 56) = w2 at *
      have hC := rScan_any Ai z.l.length ci z.l w2 hT2 hS2 (by omega)
      rw [hsc.out] at hC
      refine hC.mono ?_
      clear hC c0 c1 c2 c3 v0 v1 v2 v3 Bz
      rintro e w3 ⟨A2, k2, c2, A3, c3, hk2, rfl, R2, N2, b3⟩
      have P2 := nat_rs hk2 N2
      have hlo := hR.lt
      have hbs := bb2.size
      replace R2 := R2.imp (F' := (fun b => w1.heap.size ≤ b ∧ (Value.slice Aa na ca).ownBlock ≠ some b)) (fun b _ hb => ⟨by omega, fun e => by have := (hlo b e).2; omega⟩)
      replace P2 := P2.imp (F' := (fun b => w1.heap.size ≤ b ∧ (Value.slice Aa na ca).ownBlock ≠ some b)) (fun b _ hb => ⟨by omega, fun e => by have := (hlo b e).2; omega⟩)
      replace hk2 := Lib.hid hk2
      have hR3 := hR2.under b3
      have bb4 := bb3.trans (b3.mono bb3.size)
      have hcp2 := R2.cap
      have hcb2 := R2.big
      have hcp3 := P2.cap
      have hcb3 := P2.big
      clear N2 hlo hbs hR hR2 bb2 bb3 b3 al hal hS hS2 hT2
      go_wp2_with fail
      go_loopg [4, 30] k2 (fun g2 av jv wr => ∃ (j : Nat) (Aa : Option Addr) (na ca : Nat) (ds : List Fp), j + g2 = k2 ∧ av = .slice Aa na ca ∧ jv = .int .i64 (j : Int) ∧ Hid (raw = ds ++ ((zoneF k z).drop j ++ rawG (k + 1) (zs.drop (k + 1)))) ∧ Rq fndE (fun b => w1.heap.size ≤ b) w1.heap.size 28 wr Aa na ca ds ∧
        Rs recE (fun b => w1.heap.size ≤ b ∧ (Value.slice Aa na ca).ownBlock ≠ some b) wr A2 k2 c2 (sc.map Prod.fst) ∧ Rs natE (fun b => w1.heap.size ≤ b ∧ (Value.slice Aa na ca).ownBlock ≠ some b) wr A3 k2 c3 (sc.map Prod.snd) ∧ Below w1.heap.size w1 wr)
      case atStart => exact ⟨0, Aa, na, ca, ds, by omega, rfl, rfl, hr2, hR3, R2, P2, bb4⟩
      case round =>
        clear hr2 hR3 R2 P2 bb4
        obtain ⟨j, Aa, na, ca, ds, hjg, rfl, rfl, hr, hR, R2, P2, bb⟩ := hrel
        by_cases hjlt : (j : Int) < (k2 : Int)
        · obtain ⟨g2, rfl⟩ : ∃ g, gk = g + 1 := ⟨gk - 1, by omega⟩
          obtain ⟨gr_, or_, r, Ar, cr, rfl, hFr, hgr, hrj, c0, c1, c2', hSr, hAr⟩ := Rs.rec_at R2 (show j < k2 by omega)
          obtain ⟨gp, op, p, vs, rfl, hFp, hgp, hpj, hvs, hcp⟩ := P2.at_ (show j < k2 by omega)
          have cp : wr.cell? ⟨gp, op + j, none⟩ = some (.int .i64 (p : Int)) := by
            have hv0 : vs = [vint (p : Int)] := hvs
            subst hv0
            have := hcp 0 _ rfl
            simpa [vint, cellE] using this
          have hnl := hR.len
          have hr3 : Hid (raw = (ds ++ [⟨r, (k : Int), (p : Int)⟩]) ++ ((zoneF k z).drop (j + 1) ++ rawG (k + 1) (zs.drop (k + 1)))) := by
            show raw = _
            rw [List.getElem?_map, Option.map_eq_some_iff] at hrj hpj
            obtain ⟨y, hy, rfl⟩ := hrj
            obtain ⟨y', hy', rfl⟩ := hpj
            cases hy.symm.trans hy'
            have hzj : (zoneF k z)[j]? = some ⟨y.1, (k : Int), (y.2 : Int)⟩ := by rw [zoneF, hsc.out, List.getElem?_map, hy]; rfl
            obtain ⟨hj2, hz2⟩ := List.getElem?_eq_some_iff.1 hzj
            rw [hr.out, List.drop_eq_getElem_cons hj2, hz2]
            simp
          have hna : na ≤ 19 := by
            have h1 := hrl.out
            rw [hr3.out] at h1
            simp only [List.length_append, List.length_cons, List.length_nil] at h1
            omega
          clear hr hrj hpj hvs hcp hFr
          have al := (Below.refl wr.heap.size wr).alloc (Nat.le_refl _) (.cells #[.int .i64 r.k, .int .i64 r.s, .slice Ar r.l.length cr] 26)
          have Bv := Blk.new wr #[.int .i64 r.k, .int .i64 r.s, .slice Ar r.l.length cr] 26
          have hvo : (Value.slice Aa na ca).ownBlock ≠ some wr.heap.size := fun e => by have := (hR.lt _ e).2; omega
          have hgd : gp < (wr.alloc (.cells #[.int .i64 r.k, .int .i64 r.s, .slice Ar r.l.length cr] 26)).heap.size := Nat.lt_of_lt_of_le hgp al.size
          replace cp := (al.cell (p := ⟨gp, op + j, none⟩) hgp).trans cp
          replace hSr := hSr.below al
          replace bb := bb.alloc bb.size (.cells #[.int .i64 r.k, .int .i64 r.s, .slice Ar r.l.length cr] 26)
          replace hR := hR.under al
          replace R2 := R2.below al
          replace P2 := P2.below al
          obtain ⟨v0, v1, v2, _⟩ := Bv.three
          go_wp2_with fail
          clear v0 v1 v2 c0 c1 c2' al
          generalize wr.alloc (.cells #[.int .i64 r.k, .int .i64 r.s, .slice Ar r.l.length cr] 26) = w4 at *
          refine wp_region_held_drew (S := fun w' => Blk w' wr.heap.size #[.int .i64 r.k, .int .i64 r.s, .slice Ar r.l.length cr] 26 ∧ w'.cell? ⟨gp, op + j, none⟩ = some (.int .i64 (p : Int))) (by kernel_rfl) ⟨Bv, cp⟩ (fun hHeld => ?_)
          try dsimp only at hHeld
          replace hR := hR.drew
          replace R2 := R2.drew
          replace P2 := P2.drew
          have bd : Below w4.heap.size w4 w4.drew := (Below.refl _ _).drew
          replace bb := bb.drew
          replace Bv := Bv.drew
          replace cp := (bd.cell (p := ⟨gp, op + j, none⟩) hgd).trans cp
          replace hSr := hSr.below bd
          replace hgd : gp < w4.drew.heap.size := hgd
          clear bd
          generalize w4.drew = wd at *
          have al5 := (Below.refl wd.heap.size wd).alloc (Nat.le_refl _) (.cells #[.int .i64 r.k, .int .i64 r.s, .slice Ar r.l.length cr, .int .i64 (k : Int), .int .i64 (p : Int)] 28)
          have Bs := Blk.new wd #[.int .i64 r.k, .int .i64 r.s, .slice Ar r.l.length cr, .int .i64 (k : Int), .int .i64 (p : Int)] 28
          have hbd := bb.size
          have hrd : fndE.rd (fun b => w1.heap.size ≤ b ∧ (Value.slice Aa na ca).ownBlock ≠ some b) (wd.alloc (.cells #[.int .i64 r.k, .int .i64 r.s, .slice Ar r.l.length cr, .int .i64 (k : Int), .int .i64 (p : Int)] 28)) [.int .i64 r.k, .int .i64 r.s, .slice Ar r.l.length cr, .int .i64 (k : Int), .int .i64 (p : Int)] ⟨r, (k : Int), (p : Int)⟩ := ⟨Ar, cr, rfl, hSr.below al5, hAr⟩
          obtain ⟨A5, c5, w5, hrun, R5, gr, hl5⟩ := (hR.under al5).app (P := Tryd.prog) (T := 22) (ty := 22) Tryd.underlying22 hiC hzC hsC hbC rfl (Nat.le_trans hbd al5.size) (by omega) (by omega) hrd (one_fnd _ _ _ _ _ _ _) Bs
          have hlt5 := (hR.under al5).lt
          have hnew : ∀ b, b < (wd.alloc (.cells #[.int .i64 r.k, .int .i64 r.s, .slice Ar r.l.length cr, .int .i64 (k : Int), .int .i64 (p : Int)] 28)).heap.size → (Value.slice Aa na ca).ownBlock ≠ some b → (Value.slice A5 (na + 1) c5).ownBlock ≠ some b := fun b hb hf e => by
            rcases hl5 with e5 | e5
            · exact hf (e5 ▸ e)
            · rw [e5] at e
              have := Option.some.inj e
              omega
          have R2n := (((R2.below al5).imp (F' := fun b => (w1.heap.size ≤ b ∧ (Value.slice A5 (na + 1) c5).ownBlock ≠ some b) ∧ (Value.slice Aa na ca).ownBlock ≠ some b) (fun b hb hf => ⟨⟨hf.1, hnew b hb hf.2⟩, hf.2⟩)).keep gr.size (fun p hp hf => World.cell?_of_block (gr.block _ hp (fun e => hf.2 e.symm)))).imp (fun b _ hf => hf.1)
          have P2n := (((P2.below al5).imp (F' := fun b => (w1.heap.size ≤ b ∧ (Value.slice A5 (na + 1) c5).ownBlock ≠ some b) ∧ (Value.slice Aa na ca).ownBlock ≠ some b) (fun b hb hf => ⟨⟨hf.1, hnew b hb hf.2⟩, hf.2⟩)).keep gr.size (fun p hp hf => World.cell?_of_block (gr.block _ hp (fun e => hf.2 e.symm)))).imp (fun b _ hf => hf.1)
          have bb5 : Below w1.heap.size w1 w5 := (bb.trans (al5.mono hbd)).grown gr (Nat.le_trans hbd al5.size) (fun x hx => (hlt5 x hx).1)
          have S5a := (Bv.under al5).same (gr.block _ (Bv.under al5).lt (fun e => hvo (by exact e.symm)))
          have S5b := (World.cell?_of_block (gr.block _ (show gp < _ from Nat.lt_of_lt_of_le hgd al5.size) (fun e => hFp.2 (by exact e.symm)))).trans ((al5.cell (p := ⟨gp, op + j, none⟩) hgd).trans cp)
          clear hrd Bs hlt5 hl5 hnew gr R2 P2 hSr hAr
          try simp only [Act.put, List.setIfInBounds_toArray, List.set_cons_zero, List.set_cons_succ]
          refine wpAnyH_take (i := 0) (v := ?_) (by simp only [List.getElem?_toArray, List.getElem?_cons_zero]; rfl) (by kernel_rfl) (by kernel_rfl) (by kernel_rfl) (by intro _ _ _ h; exact h) (Or.inl ⟨by rfl, ?_⟩) hHeld ?_
          rotate_left 1
          · intro wq hSw
            try dsimp only at hSw
            go_simp
            try (with_reducible rfl)
          try simp only [Act.put, List.setIfInBounds_toArray, List.set_cons_zero, List.set_cons_succ]
          refine wpAnyH_take (i := 1) (v := ?_) (by simp only [List.getElem?_toArray, List.getElem?_cons_succ, List.getElem?_cons_zero]; rfl) (by kernel_rfl) (by kernel_rfl) (by kernel_rfl) (by intro _ _ _ h; exact h) (Or.inl ⟨by rfl, ?_⟩) hHeld ?_
          rotate_left 1
          · intro wq hSw
            try dsimp only at hSw
            obtain ⟨x0, x1, x2, _⟩ := hSw.1.three
            go_simp
            try (with_reducible rfl)
          try simp only [Act.put, List.setIfInBounds_toArray, List.set_cons_zero, List.set_cons_succ]
          refine wpAnyH_take (i := 2) (v := ?_) (by simp only [List.getElem?_toArray, List.getElem?_cons_succ, List.getElem?_cons_zero]; rfl) (by kernel_rfl) (by kernel_rfl) (by kernel_rfl) (by intro _ _ _ h; exact h) (Or.inl ⟨by rfl, ?_⟩) hHeld ?_
          rotate_left 1
          · intro wq hSw
            try dsimp only at hSw
            go_simp
            try (with_reducible rfl)
          try simp only [Act.put, List.setIfInBounds_toArray, List.set_cons_zero, List.set_cons_succ]
          refine wpAnyH_take (i := 3) (v := ?_) (by simp only [List.getElem?_toArray, List.getElem?_cons_succ, List.getElem?_cons_zero]; rfl) (by kernel_rfl) (by kernel_rfl) (by kernel_rfl) (by intro _ _ _ h; exact h) (Or.inl ⟨by rfl, ?_⟩) hHeld ?_
          rotate_left 1
          · intro wq hSw
            try dsimp only at hSw
            go_simp
            try (with_reducible rfl)
          try simp only [Act.put, List.setIfInBounds_toArray, List.set_cons_zero, List.set_cons_succ]
          refine wpAnyH_take (i := 4) (v := ?_) (by simp only [List.getElem?_toArray, List.getElem?_cons_succ, List.getElem?_cons_zero]; rfl) (by kernel_rfl) (by kernel_rfl) (by kernel_rfl) (by intro _ _ _ h; exact h) (Or.inl ⟨by rfl, ?_⟩) hHeld ?_
          rotate_left 1
          · intro wq hSw
            try dsimp only at hSw
            go_simp
            try (with_reducible rfl)
          try simp only [Act.put, List.setIfInBounds_toArray, List.set_cons_zero, List.set_cons_succ]
          refine wpAnyH_take (i := 5) (v := .pointer (some ⟨gp, op + j, none⟩)) (by simp only [List.getElem?_toArray, List.getElem?_cons_succ, List.getElem?_cons_zero]; rfl) (by kernel_rfl) (by kernel_rfl) (by kernel_rfl) (by intro _ _ _ h; exact h) (Or.inl ⟨by rfl, ?_⟩) hHeld ?_
          · intro wq hSw
            try dsimp only at hSw
            go_simp
            all_goals (first | (with_reducible rfl) | (intro hh; exfalso; omega))
          try simp only [Act.put, List.setIfInBounds_toArray, List.set_cons_zero, List.set_cons_succ]
          refine wpAnyH_take (i := 6) (v := ?_) (by simp only [List.getElem?_toArray, List.getElem?_cons_succ, List.getElem?_cons_zero]; rfl) (by kernel_rfl) (by kernel_rfl) (by kernel_rfl) (by intro _ _ _ h; exact h) (Or.inl ⟨by rfl, ?_⟩) hHeld ?_
          rotate_left 1
          · intro wq hSw
            try dsimp only at hSw
            have x0 := hSw.2
            go_simp
            try (with_reducible rfl)
          try simp only [Act.put, List.setIfInBounds_toArray, List.set_cons_zero, List.set_cons_succ]
          refine wpAnyH_take (i := 7) (v := ?_) (by simp only [List.getElem?_toArray, List.getElem?_cons_succ, List.getElem?_cons_zero]; rfl) (by kernel_rfl) (by kernel_rfl) (by kernel_rfl) (by intro _ _ _ h; exact h) (Or.inl ⟨by rfl, ?_⟩) hHeld ?_
          rotate_left 1
          · intro wq hSw
            try dsimp only at hSw
            go_simp
            try (with_reducible rfl)
          try simp only [Act.put, List.setIfInBounds_toArray, List.set_cons_zero, List.set_cons_succ]
          refine wpAnyH_ready (rs := [8]) (by kernel_rfl) (by simp) ?_
          refine AllReadyH.cons (by simp only [List.getElem?_toArray, List.getElem?_cons_succ, List.getElem?_cons_zero]; rfl) (fun K hK => ?_) AllReadyH.nil
          go_simp
          refine hK.out _ _ (⟨hHeld.1.under al5, (al5.cell (p := ⟨gp, op + j, none⟩) hgd).trans hHeld.2⟩) (fun hHeld => ?_)
          clear hK K
          try dsimp only at hHeld
          try simp only [Act.put, List.setIfInBounds_toArray, List.set_cons_zero, List.set_cons_succ]
          refine wpAnyH_ready (rs := [9]) (by kernel_rfl) (by simp) ?_
          refine AllReadyH.cons (by simp only [List.getElem?_toArray, List.getElem?_cons_succ, List.getElem?_cons_zero]; rfl) (fun K hK => ?_) AllReadyH.nil
          refine (if_pos (by rfl)).mpr (wp_app (.tmp 35) (.tmp 43) 22 rfl rfl rfl hrun ?_)
          refine hK.out _ _ (⟨S5a, S5b⟩) (fun hHeld => ?_)
          clear hK K
          try dsimp only at hHeld
          try simp only [Act.put, List.setIfInBounds_toArray, List.set_cons_zero, List.set_cons_succ]
          refine wpAnyH_take (i := 10) (v := ?_) (by simp only [List.getElem?_toArray, List.getElem?_cons_succ, List.getElem?_cons_zero]; rfl) (by kernel_rfl) (by kernel_rfl) (by kernel_rfl) (by intro _ _ _ h; exact h) (Or.inl ⟨by rfl, ?_⟩) hHeld ?_
          rotate_left 1
          · intro wq hSw
            try dsimp only at hSw
            go_simp
            try (with_reducible rfl)
          try simp only [Act.put, List.setIfInBounds_toArray, List.set_cons_zero, List.set_cons_succ]
          refine wpAnyH_done (by kernel_rfl) ?_ _
          go_wp2
          go_roundg g2
          case measure => omega
          case rel => exact ⟨j + 1, A5, na + 1, c5, _, by omega, rfl, by first | rfl | (simp; done), hr3, R5, R2n, P2n, bb5⟩
        · have hr3 : Hid (raw = ds ++ rawG (k + 1) (zs.drop (k + 1))) := by
            show raw = _
            rw [hr.out, List.drop_of_length_le (by rw [zoneF, List.length_map, hsc.out, ← hk2.out]; omega)]
            rfl
          clear hr R2 P2
          go_wp2
          go_roundg g
          case measure => omega
          case rel => exact ⟨k + 1, Aa, na, ca, ds, by omega, rfl, by first | rfl | (simp; done), hr3, hR, bb⟩
    · have hds : ds = raw := by
        rw [hr.out, List.drop_of_length_le (by omega)]
        simp [rawG]
      subst hds
      have hnl := hR.len
      have h20 := hrl.out
      go_wp2_with fail
      refine (gSort_any Aa na ca ds wr hR (by omega) bb2.size).mono ?_
      rintro e w2 ⟨rfl, Rz, b2⟩
      go_wp2
      go_ret2
      have hxo := hxs.out
      subst hxo
      exact ⟨Aa, na, ca, by rw [sortK_length]; exact hnl.symm, rfl, Rz.imp (fun b _ hb => by omega), bb.trans ((bb2.trans b2).mono (by omega))⟩
end Go.Proofs.YtnejiclghnigiaaDoor
namespace Go.Proofs.YtnejiclghnigiaaDoor
open Go.RowKit Go.Wag
set_option linter.unusedVariables false
set_option maxRecDepth 20000

set_option maxHeartbeats 1000000 in
theorem gcopied_any (k s : Int) (A : Option Addr) (n c : Nat) (l : List UInt8) (w : World) (h : Sl w A n c (l.map v8)) (hn : n ≤ 10000000000000) :
    Calls Tryd.prog 30 #[.agg #[.int .i64 k, .int .i64 s, .slice A n c]] w fun e w' => ∃ A', e = .returned (.agg #[.int .i64 k, .int .i64 s, .slice A' n n]) ∧ Nw 5 w w' A' n n (l.map v8) ∧ Below w.heap.size w w' := by
  have hlen := h.len
  have hcap := h.cap
  have hbig := h.big
  obtain ⟨i0, hi, hz0, hz1, hz2⟩ := info_parts i5
  have hmk := fun W => run_mk (P := Tryd.prog) 24 5 i0 (.int .u8 0) 1 Tryd.underlying24 hi hz0 hz1 hz2 rfl .i64 .i64 (n : Int) (n : Int) n n rfl rfl (by omega) (by omega) (by omega) W
  go_enter Tryd.func30, Tryd.ntmps30
  have B1 := ((Blk.new w #[.int .i64 k, .int .i64 s, .slice A n c] 26).alloc (.cells #[.int .i64 0, .int .i64 0, .slice none 0 0] 26)).alloc (.cells (mk0 (.int .u8 0) n) 5)
  have B2 := (Blk.new (w.alloc (.cells #[.int .i64 k, .int .i64 s, .slice A n c] 26)) #[.int .i64 0, .int .i64 0, .slice none 0 0] 26).alloc (.cells (mk0 (.int .u8 0) n) 5)
  have HO := Own.made ((w.alloc (.cells #[.int .i64 k, .int .i64 s, .slice A n c] 26)).alloc (.cells #[.int .i64 0, .int .i64 0, .slice none 0 0] 26)) (.int .u8 0) 5 n n (by omega) (by omega)
  have b1 := ((Below.refl w.heap.size w).alloc (Nat.le_refl _) (.cells #[.int .i64 k, .int .i64 s, .slice A n c] 26)).alloc (by simp) (.cells #[.int .i64 0, .int .i64 0, .slice none 0 0] 26)
  have HC := ((h.alloc (.cells #[.int .i64 k, .int .i64 s, .slice A n c] 26)).alloc (.cells #[.int .i64 0, .int .i64 0, .slice none 0 0] 26)).alloc (.cells (mk0 (.int .u8 0) n) 5)
  simp only [World.size_alloc] at HO B2 B1
  go_wp2_with (with_reducible refine wpList_cpy rfl (.tmp 8) (.tmp 10) 24 24 rfl rfl HO Tryd.underlying24 sz5 _ _ _ _ rfl HC (oneCell8 l) ?_
               intro w4 hw4
               rw [cpy_full _ _ _ hlen] at hw4
               have B3 := B1.ownAt hw4 (by omega)
               have B4 := B2.ownAt hw4 (by omega)
               obtain ⟨c0, c1, c2, f0, f1, f2⟩ := B3.three
               obtain ⟨d0, d1, d2, g0, g1, g2⟩ := B4.three)
  try simp only [Exit.inBlock, Exit.then]
  have hN0 : Nw 5 w w4 (some ⟨w.heap.size + 1 + 1, 0, none⟩) n n (l.map v8) := Nw.mono (w1 := (w.alloc (.cells #[] 0)).alloc (.cells #[] 0)) (by simpa [Nw] using hw4.own) (by simp; omega)
  have b4 : Below w.heap.size w w4 := hw4.belowAt (b1.alloc (by simp; omega) _) (by simp; omega) (by omega)
  refine ret_blk (g := w.heap.size + 1) rfl rfl ((((B4.far (by simp) _).set 0 _).set 1 _).set 2 _) Tryd.underlying26 (by kernel_rfl) ⟨_, rfl, ?_, ?_⟩
  · exact (((hN0.far (apart_at (by simp <;> omega)) _).far (apart_at (by simp <;> omega)) _).far (apart_at (by simp <;> omega)) _).far (apart_at (by simp <;> omega)) _
  · exact (((b4.setCell (Nat.le_refl _) _).setCell (by simp) _).setCell (by simp) _).setCell (by simp) _

/-! Maps from numbers to numbers. -/
abbrev fnow (a : Int) (es : Array MapEntry) := Instr.findNow (.int .i64) (.int .i64 a) es.toList 0
theorem same_now (a b : Int) : Instr.sameNow (.int .i64) (.int .i64 a) (.int .i64 b) = some (decide (a = b)) := by
  first | rfl | (simp [Instr.sameNow]; done) | (unfold Instr.sameNow; simp; rfl)
theorem findNow_snoc (a b : Int) (v : Value) (cl : Nat) : ∀ (l : List MapEntry) (i : Nat), Instr.findNow (.int .i64) (.int .i64 a) (l ++ [⟨.int .i64 b, v, cl⟩]) i =
    (match Instr.findNow (.int .i64) (.int .i64 a) l i with | some none => (if a = b then some (some (i + l.length, v)) else some none) | r => r)
  | [], i => by
    simp only [List.nil_append, Instr.findNow, same_now, List.length_nil, Nat.add_zero]
    by_cases h : a = b <;> simp [h]
  | e :: l, i => by
    simp only [List.cons_append, Instr.findNow, List.length_cons]
    cases hs : Instr.sameNow (.int .i64) (.int .i64 a) e.key with
    | none => rfl
    | some t =>
      cases t with
      | true => rfl
      | false =>
        simp only
        rw [findNow_snoc a b v cl l (i + 1)]
        have : i + 1 + l.length = i + (l.length + 1) := by omega
        rw [this]
theorem run_look (W : World) (r : Nat) (es : Array MapEntry) (clock : Nat) (a : Int) (hb : W.heap[r]? = some (.map es clock)) (i : Nat) (v : Value) (hf : fnow a es = some (some (i, v))) :
    (Instr.lookup 70 (.map (some r)) (.int .i64 a) true).run Tryd.prog W = .ok (.tuple #[v, .bool true]) W := by
  have hc : (Instr.checkKey es.isEmpty 10000 3 (.int .i64 a)).run Tryd.prog W = .ok () W := MapKept.run_checkKey (k := .int .i64 a) Tryd.underlying3 (by simp [MapKept.IsKey]) _ 9999
  simp [Instr.lookup, run_underlying Tryd.underlying70, MapKept.run_getObj_map hb, hc, MapKept.run_findKey Tryd.underlying3 hf, Result.andThen]
theorem run_look_no (W : World) (r : Nat) (es : Array MapEntry) (clock : Nat) (a : Int) (hb : W.heap[r]? = some (.map es clock)) (hf : fnow a es = some none) :
    (Instr.lookup 70 (.map (some r)) (.int .i64 a) true).run Tryd.prog W = .ok (.tuple #[.int .i64 0, .bool false]) W := by
  have hc : (Instr.checkKey es.isEmpty 10000 3 (.int .i64 a)).run Tryd.prog W = .ok () W := MapKept.run_checkKey (k := .int .i64 a) Tryd.underlying3 (by simp [MapKept.IsKey]) _ 9999
  have hz : (zeroValue 3).run Tryd.prog W = .ok (.int .i64 0) W := by kernel_rfl
  simp [Instr.lookup, run_underlying Tryd.underlying70, MapKept.run_getObj_map hb, hc, MapKept.run_findKey Tryd.underlying3 hf, Result.andThen, hz]
def putObj (W : World) (r : Nat) (o : Obj) : World := { W with heap := W.heap.setIfInBounds r o }
theorem run_put (W : World) (r : Nat) (es : Array MapEntry) (clock : Nat) (a : Int) (val : Value) (hb : W.heap[r]? = some (.map es clock)) (hf : fnow a es = some none) :
    (Instr.mapUpdate 70 (.map (some r)) (.int .i64 a) val).run Tryd.prog W = .ok () (putObj W r (.map (es.push ⟨.int .i64 a, val, clock⟩) (clock + 1))) := by
  have hc : (Instr.checkKey false 10000 3 (.int .i64 a)).run Tryd.prog W = .ok () W := MapKept.run_checkKey (k := .int .i64 a) Tryd.underlying3 (by simp [MapKept.IsKey]) false 9999
  simp [Instr.mapUpdate, run_underlying Tryd.underlying70, MapKept.run_getObj_map hb, hc, MapKept.run_findKey Tryd.underlying3 hf, MapKept.run_setObj_map _ hb, Result.andThen, putObj]
theorem putObj_at {W : World} {r : Nat} (hr : r < W.heap.size) (o : Obj) : (putObj W r o).heap[r]? = some o := by simp [putObj, hr]
theorem putObj_below {w W : World} {B r : Nat} (h : Below B w W) (hr : B ≤ r) (o : Obj) : Below B w (putObj W r o) :=
  ⟨h.os, h.tape, h.output, by simpa [putObj] using h.size, fun k hk => by
    rw [← h.block k hk]
    simp only [putObj]
    rw [Array.getElem?_setIfInBounds_ne (by omega)]⟩

/-- Where the first record of a number is. -/
def idxS (xs : List Fp) (s : Int) : Option Nat := xs.findIdx? (fun f => decide (f.r.s = s))
def MpOk (es : Array MapEntry) (xs : List Fp) : Prop := ∀ s, match idxS xs s with | none => fnow s es = some none | some i => ∃ m, fnow s es = some (some (m, .int .i64 (i : Int)))
theorem MpOk.no {es : Array MapEntry} {xs : List Fp} (h : MpOk es xs) {s : Int} (hs : idxS xs s = none) : fnow s es = some none := by
  have := h s
  rw [hs] at this
  exact this
theorem MpOk.yes {es : Array MapEntry} {xs : List Fp} (h : MpOk es xs) {s : Int} {i : Nat} (hs : idxS xs s = some i) : ∃ m, fnow s es = some (some (m, .int .i64 (i : Int))) := by
  have := h s
  rw [hs] at this
  exact this
theorem idxS_snoc (xs : List Fp) (x : Fp) (s : Int) : idxS (xs ++ [x]) s = (match idxS xs s with | some i => some i | none => if x.r.s = s then some xs.length else none) := by
  unfold idxS
  rw [List.findIdx?_append]
  cases List.findIdx? (fun f : Fp => decide (f.r.s = s)) xs with
  | some i => rfl
  | none => by_cases h : x.r.s = s <;> simp [List.findIdx?_cons, h]
theorem MpOk.old {es : Array MapEntry} {xs : List Fp} {x : Fp} {i : Nat} (h : MpOk es xs) (hs : idxS xs x.r.s = some i) : MpOk es (xs ++ [x]) := fun s => by
  have hh := h s
  rw [idxS_snoc]
  cases hi : idxS xs s with
  | some j => rw [hi] at hh; exact hh
  | none =>
    rw [hi] at hh
    have hne : ¬ x.r.s = s := fun e => by rw [← e, hs] at hi; cases hi
    simp only [if_neg hne]
    exact hh
theorem MpOk.new {es : Array MapEntry} {xs : List Fp} {x : Fp} {cl k : Nat} (h : MpOk es xs) (hs : idxS xs x.r.s = none) (hk : xs.length = k) : MpOk (es.push ⟨.int .i64 x.r.s, .int .i64 (k : Int), cl⟩) (xs ++ [x]) := fun s => by
  have hh := h s
  rw [idxS_snoc]
  have hp : fnow s (es.push ⟨.int .i64 x.r.s, .int .i64 (k : Int), cl⟩) = (match fnow s es with | some none => (if s = x.r.s then some (some (0 + es.toList.length, .int .i64 (k : Int))) else some none) | r => r) := by
    unfold fnow
    rw [Array.toList_push]
    exact findNow_snoc s x.r.s _ cl es.toList 0
  cases hi : idxS xs s with
  | some j =>
    rw [hi] at hh
    obtain ⟨m, hm⟩ := hh
    exact ⟨m, by rw [hp, hm]⟩
  | none =>
    rw [hi] at hh
    simp only at hh
    rw [hh] at hp
    by_cases e : x.r.s = s
    · simp only [if_pos e]
      exact ⟨_, by rw [hp, if_pos e.symm, hk]⟩
    · simp only [if_neg e]
      rw [hp, if_neg (fun e2 => e e2.symm)]

def FirstPost (w : World) (xs : List Fp) (e : Ending) (w' : World) : Prop := ∃ r es cl, e = .returned (.map (some r)) ∧ w'.heap[r]? = some (.map es cl) ∧ MpOk es xs ∧ Below w.heap.size w w'
set_option maxHeartbeats 2000000 in
theorem gFirst_any {F : Nat → Prop} (A : Option Addr) (n c : Nat) (xs : List Fp) (w : World) (h : Rs fndE F w A n c xs) :
    Calls Tryd.prog 29 #[.slice A n c] w (FirstPost w xs) := by
  have hlen := h.len
  have hcap := h.cap
  have hbig := h.big
  have hmm := run_makeMap (P := Tryd.prog) 70 w
  have a0 := (Below.refl w.heap.size w).alloc (Nat.le_refl _) (.map #[] 0)
  have hm0 := (MapKept.heap_alloc w (.map #[] 0)).1
  go_enter Tryd.func29, Tryd.ntmps29
  go_wp2_with fail
  generalize w.alloc (.map #[] 0) = w0 at *
  go_loopg [11] n (fun g iv wr => ∃ (k : Nat) (es : Array MapEntry) (cl : Nat), k + g = n ∧ iv = .int .i64 (k : Int) ∧ wr.heap[w.heap.size]? = some (.map es cl) ∧ Aside (MpOk es (xs.take k)) ∧ Below w.heap.size w wr)
  case atStart => exact ⟨0, #[], 0, by omega, rfl, hm0, fun s => rfl, a0⟩
  case round =>
    clear hm0 a0
    obtain ⟨k, es, cl, hk, rfl, hm, hok, bb⟩ := hrel
    by_cases hlt : (k : Int) < (n : Int)
    · obtain ⟨g, rfl⟩ : ∃ g, gk = g + 1 := ⟨gk - 1, by omega⟩
      obtain ⟨gb, o, x, Ai, ci, rfl, hF, hg, hx, c0', c1', c2', c3', c4', hS, hA⟩ := Rs.fnd_at h (show k < n by omega)
      have c0 := (bb.cell hg).trans c0'
      have c1 := (bb.cell hg).trans c1'
      have c2 := (bb.cell hg).trans c2'
      have c3 := (bb.cell hg).trans c3'
      have c4 := (bb.cell hg).trans c4'
      have htk : Aside (xs.take (k + 1) = xs.take k ++ [x]) := by
        show xs.take (k + 1) = xs.take k ++ [x]
        rw [List.take_add_one, hx]; rfl
      have htl : (xs.take k).length = k := by rw [List.length_take]; omega
      clear c0' c1' c2' c3' c4' hx hA
      have al := (Below.refl wr.heap.size wr).alloc (Nat.le_refl _) (.cells #[.int .i64 x.r.k, .int .i64 x.r.s, .slice Ai x.r.l.length ci, .int .i64 x.zn, .int .i64 x.at_] 28)
      have Bv := Blk.new wr #[.int .i64 x.r.k, .int .i64 x.r.s, .slice Ai x.r.l.length ci, .int .i64 x.zn, .int .i64 x.at_] 28
      have hml := (Array.getElem?_eq_some_iff.1 hm).1
      have hm1 := (al.block w.heap.size hml).trans hm
      have bb1 := bb.alloc bb.size (.cells #[.int .i64 x.r.k, .int .i64 x.r.s, .slice Ai x.r.l.length ci, .int .i64 x.zn, .int .i64 x.at_] 28)
      have hml1 := (Array.getElem?_eq_some_iff.1 hm1).1
      obtain ⟨v0, v1, v2, v3, v4, _⟩ := Bv.five
      cases hi : idxS (xs.take k) x.r.s with
      | some i =>
        obtain ⟨m, hfm⟩ := hok.out.yes hi
        have hlk := run_look (wr.alloc (.cells #[.int .i64 x.r.k, .int .i64 x.r.s, .slice Ai x.r.l.length ci, .int .i64 x.zn, .int .i64 x.at_] 28)) w.heap.size es cl x.r.s hm1 m _ hfm
        have hok2 : Aside (MpOk es (xs.take (k + 1))) := by
          show MpOk es _
          rw [htk.out]
          exact hok.out.old hi
        clear hfm hi hok htk htl
        go_wp2
        go_roundg g
        case measure => omega
        case rel => exact ⟨k + 1, es, cl, by omega, by first | rfl | (simp; done), hm1, hok2, bb1⟩
      | none =>
        have hlk := run_look_no (wr.alloc (.cells #[.int .i64 x.r.k, .int .i64 x.r.s, .slice Ai x.r.l.length ci, .int .i64 x.zn, .int .i64 x.at_] 28)) w.heap.size es cl x.r.s hm1 (hok.out.no hi)
        have hup := run_put (wr.alloc (.cells #[.int .i64 x.r.k, .int .i64 x.r.s, .slice Ai x.r.l.length ci, .int .i64 x.zn, .int .i64 x.at_] 28)) w.heap.size es cl x.r.s (.int .i64 (k : Int)) hm1 (hok.out.no hi)
        have hok2 : Aside (MpOk (es.push ⟨.int .i64 x.r.s, .int .i64 (k : Int), cl⟩) (xs.take (k + 1))) := by
          show MpOk _ _
          rw [htk.out]
          exact hok.out.new hi htl
        clear hi hok htk htl
        have hm2 := putObj_at hml1 (.map (es.push ⟨.int .i64 x.r.s, .int .i64 (k : Int), cl⟩) (cl + 1))
        have bb2 := putObj_below bb1 (Nat.le_refl _) (.map (es.push ⟨.int .i64 x.r.s, .int .i64 (k : Int), cl⟩) (cl + 1))
        generalize hes : es.push ⟨.int .i64 x.r.s, .int .i64 (k : Int), cl⟩ = es2 at *
        generalize putObj (wr.alloc (.cells #[.int .i64 x.r.k, .int .i64 x.r.s, .slice Ai x.r.l.length ci, .int .i64 x.zn, .int .i64 x.at_] 28)) w.heap.size (.map es2 (cl + 1)) = w2 at *
        go_wp2
        go_roundg g
        case measure => omega
        case rel => exact ⟨k + 1, es2, cl + 1, by omega, by first | rfl | (simp; done), hm2, hok2, bb2⟩
    · have hkk : xs.take k = xs := List.take_of_length_le (by omega)
      have hok2 := hok.out
      rw [hkk] at hok2
      go_wp2
      go_ret
      exact ⟨_, es, cl, rfl, hm, hok2, bb⟩

/-- The records that follow one another from s on (at most so many). -/
def runN (xs : List Fp) : Nat → Int → List Rp
  | 0, _ => []
  | g + 1, s => match idxS xs s with
    | none => []
    | some i => ((xs[i]?).map (·.r)).toList ++ (if s = 9223372036854775807 then [] else runN xs g (s + 1))
def runF (xs : List Fp) (s : Int) : List Rp := runN xs (xs.length + 1) s
def leftN (xs : List Fp) (s : Int) : Nat := xs.countP (fun f => decide (s ≤ f.r.s))
theorem idxS_some {xs : List Fp} {s : Int} {i : Nat} (h : idxS xs s = some i) : ∃ x, xs[i]? = some x ∧ x.r.s = s ∧ i < xs.length := by
  unfold idxS at h
  rw [List.findIdx?_eq_some_iff_getElem] at h
  obtain ⟨hi, h1, _⟩ := h
  exact ⟨xs[i], List.getElem?_eq_getElem hi, by simpa using h1, hi⟩
theorem left_step {xs : List Fp} {s : Int} {i : Nat} (h : idxS xs s = some i) : leftN xs (s + 1) < leftN xs s := by
  obtain ⟨x, hx, hs, _⟩ := idxS_some h
  have hm : x ∈ xs := List.mem_of_getElem? hx
  unfold leftN
  have : ∀ l : List Fp, x ∈ l → l.countP (fun f => decide (s + 1 ≤ f.r.s)) < l.countP (fun f => decide (s ≤ f.r.s)) := by
    intro l
    induction l with
    | nil => intro h; cases h
    | cons y l ih =>
      intro hy
      have mono : l.countP (fun f => decide (s + 1 ≤ f.r.s)) ≤ l.countP (fun f => decide (s ≤ f.r.s)) := List.countP_mono_left (fun z _ hz => by simp at hz ⊢; omega)
      rw [List.countP_cons, List.countP_cons]
      rcases List.mem_cons.1 hy with rfl | hy
      · simp only [decide_eq_true_eq]
        rw [if_neg (by omega), if_pos (by omega)]
        omega
      · have := ih hy
        simp only [decide_eq_true_eq]
        split <;> split <;> omega
  exact this xs hm
theorem run_some {xs : List Fp} {g : Nat} {s : Int} {i : Nat} {x : Fp} (h : idxS xs s = some i) (hx : xs[i]? = some x) (hs : s ≠ 9223372036854775807) : runN xs (g + 1) s = x.r :: runN xs g (s + 1) := by
  simp only [runN, h, hx, if_neg hs]
  rfl
theorem run_last {xs : List Fp} {g : Nat} {s : Int} {i : Nat} {x : Fp} (h : idxS xs s = some i) (hx : xs[i]? = some x) (hs : s = 9223372036854775807) : runN xs (g + 1) s = [x.r] := by
  simp only [runN, h, hx, if_pos hs]
  rfl
theorem run_none {xs : List Fp} {g : Nat} {s : Int} (h : idxS xs s = none) : runN xs (g + 1) s = [] := by rw [runN, h]

/-- Records in memory. -/
def RunPost (w : World) (rs : List Rp) (e : Ending) (w' : World) : Prop :=
  ∃ A k c, k = rs.length ∧ e = .returned (.slice A k c) ∧ Rs recE (fun b => w.heap.size ≤ b) w' A k c rs ∧ Below w.heap.size w w'

set_option maxHeartbeats 4000000 in
theorem gRun_any {F : Nat → Prop} (A : Option Addr) (n c : Nat) (xs : List Fp) (s : Int) (w : World) (h : Rs fndE F w A n c xs) (hs0 : -9223372036854775808 ≤ s) (hs1 : s < 9223372036854775808) (hn : n ≤ 1000000) (hb : ∀ x ∈ xs, x.r.l.length ≤ 10000) (rs : List Rp) (hr : runF xs s = rs) :
    Calls Tryd.prog 11 #[.slice A n c, .int .i64 s] w (RunPost w rs) := by
  obtain ⟨iR, hiR, hzR, hsR, hbR⟩ := iRec
  have hlen := h.len
  have hcap := h.cap
  have hbig := h.big
  have hbA : Aside (∀ x ∈ xs, x.r.l.length ≤ 10000) := hb
  have hr0 : Hid (rs = [] ++ runN xs (n + 1) s) := by
    show rs = _
    rw [← hr, runF, hlen]
    rfl
  clear hr hb
  go_enter Tryd.func11, Tryd.ntmps11
  go_wp2_with fail
  refine (gFirst_any A n c xs w h).mono ?_
  rintro e w1 ⟨rm, es, cl, rfl, hm, hok, b1⟩
  have hokA : Aside (MpOk es xs) := hok
  have hml := (Array.getElem?_eq_some_iff.1 hm).1
  have hlf : leftN xs s < n + 1 := Nat.lt_succ_of_le (by rw [← hlen]; exact List.countP_le_length)
  clear hok
  go_wp2_with fail
  go_loopg [6, 7] (n + 1) (fun g rv sv wr => ∃ (k : Nat) (Aa : Option Addr) (ca : Nat) (ds : List Rp) (s : Int), rv = .slice Aa k ca ∧ sv = .int .i64 s ∧ -9223372036854775808 ≤ s ∧ s < 9223372036854775808 ∧ leftN xs s < g ∧ k + g = n + 1 ∧ Hid (rs = ds ++ runN xs g s) ∧ Rq recE (fun b => w1.heap.size ≤ b) w1.heap.size 26 wr Aa k ca ds ∧ Below w1.heap.size w1 wr)
  case atStart => exact ⟨0, none, 0, [], s, rfl, rfl, hs0, hs1, hlf, by omega, hr0, Rq.nil _ _ _ _ _, Below.refl _ _⟩
  case round =>
    clear hs0 hs1 hlf hr0
    obtain ⟨k, Aa, ca, ds, s, rfl, rfl, hs0, hs1, hlf, hkg, hr, hR, bb⟩ := hrel
    obtain ⟨g, rfl⟩ : ∃ g, gk = g + 1 := ⟨gk - 1, by omega⟩
    have hmw := (bb.block rm hml).trans hm
    cases hi : idxS xs s with
    | none =>
      have hlk := run_look_no wr rm es cl s hmw (hokA.out.no hi)
      have hds : Hid (rs = ds) := by
        show rs = ds
        rw [hr.out, run_none hi, List.append_nil]
      have hnl := hR.len
      clear hi hr
      go_wp2
      go_ret
      rw [hds.out]
      exact ⟨Aa, k, ca, hnl.symm, rfl, (hR.toRs (fun b _ hb => hb)).imp (fun b _ hb => Nat.le_trans b1.size hb), b1.trans (bb.mono b1.size)⟩
    | some i =>
      obtain ⟨m, hfm⟩ := hokA.out.yes hi
      have hlk := run_look wr rm es cl s hmw m _ hfm
      obtain ⟨x, hx, -, hil⟩ := idxS_some hi
      have hxb := hbA.out x (List.mem_of_getElem? hx)
      have hst := left_step hi
      obtain ⟨gb, o, x', Ai, ci, rfl, hF, hg, hx', c0', c1', c2', c3', c4', hS, hA⟩ := Rs.fnd_at h (show i < n by omega)
      obtain rfl : x = x' := Option.some.inj (hx.symm.trans hx')
      have hin : i < n := by omega
      have hbw := b1.trans (bb.mono b1.size)
      have c0 := (hbw.cell hg).trans c0'
      have c1 := (hbw.cell hg).trans c1'
      have c2 := (hbw.cell hg).trans c2'
      have hSw := hS.below hbw
      clear c0' c1' c2' c3' c4' hx' hfm hA hS
      go_wp2_with fail
      refine (gcopied_any x.r.k x.r.s Ai x.r.l.length ci x.r.l wr hSw (by omega)).mono ?_
      rintro e w2 ⟨A2, rfl, N2, b2⟩
      have hR2 := hR.under b2
      have bb2 := bb.trans (b2.mono bb.size)
      have hlo := hR.lt
      have hbs := bb.size
      have al := (Below.refl w2.heap.size w2).alloc (Nat.le_refl _) (.cells #[.int .i64 x.r.k, .int .i64 x.r.s, .slice A2 x.r.l.length x.r.l.length] 26)
      have Bs := Blk.new w2 #[.int .i64 x.r.k, .int .i64 x.r.s, .slice A2 x.r.l.length x.r.l.length] 26
      have hrd : recE.rd (fun b => w1.heap.size ≤ b ∧ (Value.slice Aa k ca).ownBlock ≠ some b) w2 [.int .i64 x.r.k, .int .i64 x.r.s, .slice A2 x.r.l.length x.r.l.length] x.r := by
        refine ⟨A2, _, rfl, Sl.of_own N2, fun hn ad e => ?_⟩
        subst e
        have hge := (World.ownsRow.lt N2 ad.block rfl).1
        exact ⟨by omega, fun e2 => by have := (hlo _ e2).2; omega⟩
      obtain ⟨A5, c5, w5, hrun, R5, gr, hl5⟩ := (hR2.under al).app (P := Tryd.prog) (T := 30) (ty := 30) Tryd.underlying30 hiR hzR hsR hbR rfl (Nat.le_trans bb2.size al.size) (by omega) (by omega) (Elt.below hrd al) (one_rec _ _ _ _ _) Bs
      have hlo2 := (hR2.under al).lt
      have bb5 : Below w1.heap.size w1 w5 := (bb2.trans (al.mono bb2.size)).grown gr (Nat.le_trans bb2.size al.size) (fun y hy => (hlo2 y hy).1)
      clear hrd Bs hlo hlo2 hbs hR hR2 bb bb2 al N2 gr hl5 b2
      by_cases hmax : s = 9223372036854775807
      · have hds : Hid (rs = ds ++ [x.r]) := by
          show rs = _
          rw [hr.out, run_last hi hx hmax]
        subst hmax
        have hnl := R5.len
        clear hi hr hx hst hlf
        go_wp2_with (at_builtin; first | (refine wpList_run rfl (.tmp 24) (.tmp 31) 30 rfl rfl rfl hrun ?_; intro _))
        go_ret
        rw [hds.out]
        exact ⟨A5, k + 1, c5, hnl.symm, rfl, (R5.toRs (fun b _ hb => hb)).imp (fun b _ hb => Nat.le_trans b1.size hb), b1.trans (bb5.mono b1.size)⟩
      · have hds : Hid (rs = (ds ++ [x.r]) ++ runN xs g (s + 1)) := by
          show rs = _
          rw [hr.out, run_some hi hx hmax]
          simp
        clear hi hr hx
        go_wp2_with (at_builtin; first | (refine wpList_run rfl (.tmp 24) (.tmp 31) 30 rfl rfl rfl hrun ?_; intro _))
        go_roundg g
        case measure => omega
        case rel => exact ⟨k + 1, A5, c5, _, s + 1, rfl, by first | rfl | (simp; done) | (simp; exact wrap64_small (by omega) (by omega)), by omega, by omega, by omega, by omega, hds, R5, bb5⟩
end Go.Proofs.YtnejiclghnigiaaDoor
namespace Go.Proofs.YtnejiclghnigiaaDoor
open Go.RowKit Go.Wag
set_option linter.unusedVariables false
set_option maxRecDepth 20000
set_option linter.unusedSimpArgs false

def aw5 : Rp := ⟨1, 5, List.replicate 40 0⟩
def aw6 : Rp := ⟨1, 6, List.replicate 40 0⟩
def awZ0 : List Zp := [zero4, zero4]
def awZ1 : List Zp := [⟨1, 0, 0, recB aw5⟩, zero4]
def awZ2 : List Zp := [⟨1, 0, 0, recB aw5⟩, ⟨1, 0, 0, recB aw6⟩]
theorem aw5_ok : aw5.ok = true := by decide
theorem aw6_ok : aw6.ok = true := by decide
theorem aw5_len : (recB aw5).length = 60 := by rw [recB_length]; rfl
theorem aw6_len : (recB aw6).length = 60 := by rw [recB_length]; rfl
theorem awD0 : devF 100 awZ0 = true := by decide
theorem awD2 : devF 100 awZ2 = true := by simp [devF, awZ2, mayF, zchk, chkF, aw5_len, aw6_len]
theorem awAp : apS 100 ⟨-1, 0, false, awZ0⟩ [aw5, aw6] = (⟨-1, 2, false, awZ2⟩, [(0, 0), (1, 0)], 0) := by
  have h5 : pnEr 100 awZ0 aw5 = 0 := by simp [pnEr, aw5_ok, aw5_len, plEr, awZ0, awD0, devF, mayF, zchk, chkF, zero4, idxF, List.findIdx?_cons, roomy, isO, isE]
  have c5 : pnCs 100 awZ0 aw5 = [⟨1, 0, recB aw5⟩] := by simp [pnCs, pnZn, plCs, plZn, aw5_ok, aw5_len, plEr, awZ0, awD0, devF, mayF, zchk, chkF, zero4, idxF, List.findIdx?_cons, roomy, isO, isE, openF]
  have z5 : pnZn 100 awZ0 aw5 = 0 := by simp [pnZn, plZn, aw5_ok, aw5_len, plEr, awZ0, awD0, devF, mayF, zchk, chkF, zero4, idxF, List.findIdx?_cons, roomy, isO, isE, openF]
  have d5 : doAll 100 ⟨-1, 0, false, awZ0⟩ [⟨1, 0, recB aw5⟩] = (⟨-1, 1, false, awZ1⟩, 0) := by
    simp [doAll, doE, doS, ruEr, ruLf, ruDn, ruDw, ruZs, goF, upF, cmdEr, cmdZs, chgEr, chgZs, apE, apH, apNo, awZ0, awZ1, devF, mayF, zchk, chkF, zero4, openF, aw5_len, appErrF, appSt, appDa, roomF, fullF, wrap64]
  have h6 : pnEr 100 awZ1 aw6 = 0 := by simp [pnEr, aw6_ok, aw5_len, aw6_len, plEr, awZ1, devF, mayF, zchk, chkF, zero4, idxF, List.findIdx?_cons, roomy, roomF, isO, isE]
  have c6 : pnCs 100 awZ1 aw6 = [⟨1, 1, recB aw6⟩] := by simp [pnCs, pnZn, plCs, plZn, aw6_ok, aw5_len, aw6_len, plEr, awZ1, devF, mayF, zchk, chkF, zero4, idxF, List.findIdx?_cons, roomy, roomF, isO, isE, openF]
  have z6 : pnZn 100 awZ1 aw6 = 1 := by simp [pnZn, plZn, aw6_ok, aw5_len, aw6_len, plEr, awZ1, devF, mayF, zchk, chkF, zero4, idxF, List.findIdx?_cons, roomy, roomF, isO, isE, openF]
  have d6 : doAll 100 ⟨-1, 1, false, awZ1⟩ [⟨1, 1, recB aw6⟩] = (⟨-1, 2, false, awZ2⟩, 0) := by
    simp [doAll, doE, doS, ruEr, ruLf, ruDn, ruDw, ruZs, goF, upF, cmdEr, cmdZs, chgEr, chgZs, apE, apH, apNo, awZ1, awZ2, devF, mayF, zchk, chkF, zero4, openF, aw5_len, aw6_len, appErrF, appSt, appDa, roomF, fullF, wrap64]
  simp only [apS, h5, c5, z5, d5, if_true, h6, c6, z6, d6]
  simp [zlen, awZ0, awZ1, zero4]
theorem awFull : apS 100 ⟨-1, 2, false, awZ2⟩ [aw5] = (⟨-1, 2, false, awZ2⟩, [], 60) := by
  have h5 : pnEr 100 awZ2 aw5 = 60 := by simp [pnEr, aw5_ok, aw5_len, aw6_len, plEr, awZ2, devF, mayF, zchk, chkF, zero4, idxF, List.findIdx?_cons, roomy, roomF, isO, isE]
  simp [apS, h5]
theorem aw_sc (r : Rp) (h : r.ok = true) : scF (recB r) 0 = [(r, 0)] := by
  have := sc_recs (rs := [r]) (fun x hx => by
    rcases List.mem_cons.1 hx with rfl | hx
    · exact h
    · cases hx)
  have e : allB [r] = recB r := by simp [allB]
  rw [e] at this
  rw [this]
  rfl
theorem awRaw : rawG 0 awZ2 = [⟨aw5, 0, 0⟩, ⟨aw6, 1, 0⟩] := by
  simp [rawG, awZ2, zoneF, aw_sc aw5 aw5_ok, aw_sc aw6 aw6_ok]
theorem awAll : allF awZ2 = [⟨aw5, 0, 0⟩, ⟨aw6, 1, 0⟩] := by
  rw [allF, awRaw]
  exact sortK_eq seqK (List.Perm.refl _) (by simp [aw5, aw6, seqK])
theorem awRun5 : runF [⟨aw5, 0, 0⟩, ⟨aw6, 1, 0⟩] 5 = [aw5, aw6] := by
  simp [runF, runN, idxS, List.findIdx?_cons, aw5, aw6]
theorem awRun4 : runF [⟨aw5, 0, 0⟩, ⟨aw6, 1, 0⟩] 4 = [] := by
  simp [runF, runN, idxS, List.findIdx?_cons, aw5, aw6]
theorem awPl40 : plEr 100 awZ2 40 = 0 ∧ plZn 100 awZ2 40 = 0 ∧ plCs 100 awZ2 40 = [] := by
  simp [plEr, plZn, plCs, aw5_len, aw6_len, awZ2, devF, mayF, zchk, chkF, zero4, idxF, List.findIdx?_cons, roomy, roomF, isO, isE]
theorem awPl101 : plEr 100 awZ2 101 = 1 ∧ plZn 100 awZ2 101 = 0 ∧ plCs 100 awZ2 101 = [] := by
  simp [plEr, plZn, plCs]
theorem awE0 : emptyF awZ0 = 2 := by decide
theorem awE2 : emptyF awZ2 = 0 := by simp [emptyF, awZ2, isE]
end Go.Proofs.YtnejiclghnigiaaDoor
namespace Go.Proofs.YtnejiclghnigiaaDoor
open Go.RowKit Go.Wag
set_option linter.unusedVariables false
set_option maxRecDepth 20000
set_option linter.unusedSimpArgs false

theorem rs_rec1 {w : World} {g : Nat} {t : TypeId} {r : Rp} {A : Option Addr} {n c : Nat} (hn : r.l.length = n) (h : Blk w g #[.int .i64 r.k, .int .i64 r.s, .slice A n c] t) (hs : Sl w A n c (r.l.map v8)) : Rs recE (fun _ => True) w (some ⟨g, 0, none⟩) 1 1 [r] := by
  subst hn
  refine ⟨rfl, Nat.le_refl _, by omega, fun _ => ⟨g, 0, rfl, trivial, h.lt, fun i x hi => ?_⟩⟩
  obtain rfl : i = 0 := by
    have := (List.getElem?_eq_some_iff.1 hi).1
    simp at this
    omega
  cases hi
  refine ⟨_, ⟨A, c, rfl, hs, fun _ _ _ => trivial⟩, fun j v hj => ?_⟩
  rw [h.cell]
  simpa using hj
theorem rs_rec2 {w : World} {g : Nat} {t : TypeId} {r r' : Rp} {A A' : Option Addr} {n c n' c' : Nat} (hn : r.l.length = n) (hn' : r'.l.length = n') (h : Blk w g #[.int .i64 r.k, .int .i64 r.s, .slice A n c, .int .i64 r'.k, .int .i64 r'.s, .slice A' n' c'] t) (hs : Sl w A n c (r.l.map v8)) (hs' : Sl w A' n' c' (r'.l.map v8)) : Rs recE (fun _ => True) w (some ⟨g, 0, none⟩) 2 2 [r, r'] := by
  subst hn hn'
  refine ⟨rfl, Nat.le_refl _, by omega, fun _ => ⟨g, 0, rfl, trivial, h.lt, fun i x hi => ?_⟩⟩
  have hi2 := (List.getElem?_eq_some_iff.1 hi).1
  simp at hi2
  rcases (show i = 0 ∨ i = 1 by omega) with rfl | rfl
  · cases hi
    refine ⟨_, ⟨A, c, rfl, hs, fun _ _ _ => trivial⟩, fun j v hj => ?_⟩
    have hj2 := (List.getElem?_eq_some_iff.1 hj).1
    simp at hj2
    rw [h.cell]
    rcases (show j = 0 ∨ j = 1 ∨ j = 2 by omega) with rfl | rfl | rfl <;> exact hj
  · cases hi
    refine ⟨_, ⟨A', c', rfl, hs', fun _ _ _ => trivial⟩, fun j v hj => ?_⟩
    have hj2 := (List.getElem?_eq_some_iff.1 hj).1
    simp at hj2
    rw [h.cell]
    rcases (show j = 0 ∨ j = 1 ∨ j = 2 by omega) with rfl | rfl | rfl <;> exact hj
theorem zeros_sl (W : World) (m : Nat) (hm : m ≤ 1000000) : Sl (W.alloc (.cells (mk0 (.int .u8 0) m) 5)) (some ⟨W.heap.size, 0, none⟩) m m ((List.replicate m (0 : UInt8)).map v8) := by
  have h := (Own.made W (.int .u8 0) 5 m m (Nat.le_refl _) (by omega)).to_sl
  rw [List.map_replicate]
  exact h
/-- A place that is read. -/
theorem Rs.cp_at {F : Nat → Prop} {w : World} {A : Option Addr} {n c : Nat} {pl : List (Int × Int)} (h : Rs cpE F w A n c pl) {i : Nat} (hi : i < n) : ∃ g o p, A = some ⟨g, o, none⟩ ∧ F g ∧ g < w.heap.size ∧ pl[i]? = some p ∧ w.cell? ⟨g, o + i, none⟩ = some (cpx p.1 p.2) := by
  obtain ⟨g, o, p, vs, e, hF, hg, hp, hv, hc⟩ := h.at_ hi
  have hv0 : vs = [cpx p.1 p.2] := hv
  subst hv0
  refine ⟨g, o, p, e, hF, hg, hp, ?_⟩
  have := hc 0 _ rfl
  simpa [cellE] using this
theorem cpx00 : cpx 0 0 = .complex .f64 0 0 := by kernel_rfl
theorem cpx10 : cpx 1 0 = .complex .f64 4607182418800017408 0 := by kernel_rfl

set_option maxRecDepth 100000 in
set_option maxHeartbeats 4000000 in
theorem awake6_any (w : World) (hT : Tab w) : Calls Tryd.prog 9 #[] w (AwakePost w) := by
  have bb := Below.refl w.heap.size w
  obtain ⟨i0, hi, hz0, hz1, hz2⟩ := info_parts i5
  have hmk := fun W => run_mk (P := Tryd.prog) 24 5 i0 (.int .u8 0) 1 Tryd.underlying24 hi hz0 hz1 hz2 rfl .i64 .i64 40 40 40 40 rfl rfl (by omega) (by omega) (by omega) W
  go_enter Tryd.func9, Tryd.ntmps9
  go_wp2_with fail
  have hC := dNew_at 2 100 awZ0 2 w (by decide) rfl rfl (by decide)
  refine hC.mono ?_
  clear hC
  rintro e w1 ⟨Ad, rfl, Zd, b1⟩
  replace hT := hT.below b1
  replace bb := bb.trans (b1.mono bb.size)
  replace hT := hT.alloc (.cells #[.int .i64 100, .slice Ad 2 2, .int .i64 (-1), .bool false, .int .i64 0] 36)
  replace Zd := Zd.alloc (.cells #[.int .i64 100, .slice Ad 2 2, .int .i64 (-1), .bool false, .int .i64 0] 36)
  replace bb := bb.alloc bb.size (.cells #[.int .i64 100, .slice Ad 2 2, .int .i64 (-1), .bool false, .int .i64 0] 36)
  have Bd := Blk.new w1 #[.int .i64 100, .slice Ad 2 2, .int .i64 (-1), .bool false, .int .i64 0] 36
  replace hT := hT.alloc (.cells (mk0 (.int .u8 0) 40) 5)
  replace Zd := Zd.alloc (.cells (mk0 (.int .u8 0) 40) 5)
  replace Bd := Bd.alloc (.cells (mk0 (.int .u8 0) 40) 5)
  replace bb := bb.alloc bb.size (.cells (mk0 (.int .u8 0) 40) 5)
  have sl := (zeros_sl (w1.alloc (.cells #[.int .i64 100, .slice Ad 2 2, .int .i64 (-1), .bool false, .int .i64 0] 36)) 40 (by omega))
  simp only [World.size_alloc] at sl
  replace hT := hT.alloc (.cells #[.int .i64 1, .int .i64 5, .slice (some ⟨w1.heap.size + 1, 0, none⟩) 40 40] 26)
  replace Zd := Zd.alloc (.cells #[.int .i64 1, .int .i64 5, .slice (some ⟨w1.heap.size + 1, 0, none⟩) 40 40] 26)
  replace Bd := Bd.alloc (.cells #[.int .i64 1, .int .i64 5, .slice (some ⟨w1.heap.size + 1, 0, none⟩) 40 40] 26)
  replace sl := sl.alloc (.cells #[.int .i64 1, .int .i64 5, .slice (some ⟨w1.heap.size + 1, 0, none⟩) 40 40] 26)
  replace bb := bb.alloc bb.size (.cells #[.int .i64 1, .int .i64 5, .slice (some ⟨w1.heap.size + 1, 0, none⟩) 40 40] 26)
  have Br := Blk.new ((w1.alloc (.cells #[.int .i64 100, .slice Ad 2 2, .int .i64 (-1), .bool false, .int .i64 0] 36)).alloc (.cells (mk0 (.int .u8 0) 40) 5)) #[.int .i64 1, .int .i64 5, .slice (some ⟨w1.heap.size + 1, 0, none⟩) 40 40] 26
  simp only [World.size_alloc] at Br
  replace hT := hT.alloc (.cells #[.int .i64 1, .int .i64 6, .slice (some ⟨w1.heap.size + 1, 0, none⟩) 40 40] 26)
  replace Zd := Zd.alloc (.cells #[.int .i64 1, .int .i64 6, .slice (some ⟨w1.heap.size + 1, 0, none⟩) 40 40] 26)
  replace Bd := Bd.alloc (.cells #[.int .i64 1, .int .i64 6, .slice (some ⟨w1.heap.size + 1, 0, none⟩) 40 40] 26)
  replace sl := sl.alloc (.cells #[.int .i64 1, .int .i64 6, .slice (some ⟨w1.heap.size + 1, 0, none⟩) 40 40] 26)
  replace Br := Br.alloc (.cells #[.int .i64 1, .int .i64 6, .slice (some ⟨w1.heap.size + 1, 0, none⟩) 40 40] 26)
  replace bb := bb.alloc bb.size (.cells #[.int .i64 1, .int .i64 6, .slice (some ⟨w1.heap.size + 1, 0, none⟩) 40 40] 26)
  have Bs := Blk.new (((w1.alloc (.cells #[.int .i64 100, .slice Ad 2 2, .int .i64 (-1), .bool false, .int .i64 0] 36)).alloc (.cells (mk0 (.int .u8 0) 40) 5)).alloc (.cells #[.int .i64 1, .int .i64 5, .slice (some ⟨w1.heap.size + 1, 0, none⟩) 40 40] 26)) #[.int .i64 1, .int .i64 6, .slice (some ⟨w1.heap.size + 1, 0, none⟩) 40 40] 26
  simp only [World.size_alloc] at Bs
  replace hT := hT.alloc (.cells #[.int .i64 1, .int .i64 5, .slice (some ⟨w1.heap.size + 1, 0, none⟩) 40 40, .int .i64 1, .int .i64 6, .slice (some ⟨w1.heap.size + 1, 0, none⟩) 40 40] 26)
  replace Zd := Zd.alloc (.cells #[.int .i64 1, .int .i64 5, .slice (some ⟨w1.heap.size + 1, 0, none⟩) 40 40, .int .i64 1, .int .i64 6, .slice (some ⟨w1.heap.size + 1, 0, none⟩) 40 40] 26)
  replace Bd := Bd.alloc (.cells #[.int .i64 1, .int .i64 5, .slice (some ⟨w1.heap.size + 1, 0, none⟩) 40 40, .int .i64 1, .int .i64 6, .slice (some ⟨w1.heap.size + 1, 0, none⟩) 40 40] 26)
  replace sl := sl.alloc (.cells #[.int .i64 1, .int .i64 5, .slice (some ⟨w1.heap.size + 1, 0, none⟩) 40 40, .int .i64 1, .int .i64 6, .slice (some ⟨w1.heap.size + 1, 0, none⟩) 40 40] 26)
  replace Br := Br.alloc (.cells #[.int .i64 1, .int .i64 5, .slice (some ⟨w1.heap.size + 1, 0, none⟩) 40 40, .int .i64 1, .int .i64 6, .slice (some ⟨w1.heap.size + 1, 0, none⟩) 40 40] 26)
  replace Bs := Bs.alloc (.cells #[.int .i64 1, .int .i64 5, .slice (some ⟨w1.heap.size + 1, 0, none⟩) 40 40, .int .i64 1, .int .i64 6, .slice (some ⟨w1.heap.size + 1, 0, none⟩) 40 40] 26)
  replace bb := bb.alloc bb.size (.cells #[.int .i64 1, .int .i64 5, .slice (some ⟨w1.heap.size + 1, 0, none⟩) 40 40, .int .i64 1, .int .i64 6, .slice (some ⟨w1.heap.size + 1, 0, none⟩) 40 40] 26)
  have Bl := Blk.new ((((w1.alloc (.cells #[.int .i64 100, .slice Ad 2 2, .int .i64 (-1), .bool false, .int .i64 0] 36)).alloc (.cells (mk0 (.int .u8 0) 40) 5)).alloc (.cells #[.int .i64 1, .int .i64 5, .slice (some ⟨w1.heap.size + 1, 0, none⟩) 40 40] 26)).alloc (.cells #[.int .i64 1, .int .i64 6, .slice (some ⟨w1.heap.size + 1, 0, none⟩) 40 40] 26)) #[.int .i64 1, .int .i64 5, .slice (some ⟨w1.heap.size + 1, 0, none⟩) 40 40, .int .i64 1, .int .i64 6, .slice (some ⟨w1.heap.size + 1, 0, none⟩) 40 40] 26
  simp only [World.size_alloc] at Bl
  go_wp2_with fail
  generalize (((((w1.alloc (.cells #[.int .i64 100, .slice Ad 2 2, .int .i64 (-1), .bool false, .int .i64 0] 36)).alloc (.cells (mk0 (.int .u8 0) 40) 5)).alloc (.cells #[.int .i64 1, .int .i64 5, .slice (some ⟨w1.heap.size + 1, 0, none⟩) 40 40] 26)).alloc (.cells #[.int .i64 1, .int .i64 6, .slice (some ⟨w1.heap.size + 1, 0, none⟩) 40 40] 26)).alloc (.cells #[.int .i64 1, .int .i64 5, .slice (some ⟨w1.heap.size + 1, 0, none⟩) 40 40, .int .i64 1, .int .i64 6, .slice (some ⟨w1.heap.size + 1, 0, none⟩) 40 40] 26)) = W1 at *
  have hC0 := rs_rec2 (r := aw5) (r' := aw6) rfl rfl Bl sl sl
  have hC := gAppend_any 100 ⟨-1, 0, false, awZ0⟩ Ad 2 2 _ 2 2 [aw5, aw6] W1 hT Zd hC0 (by omega) ⟨awD0, by decide⟩
  refine hC.mono ?_
  clear hC
  rintro e w2 hq
  rw [awAp] at hq
  obtain ⟨Ax, Ap, kp, cp, hkp, rfl, Zx, Rp2, b2⟩ := hq
  simp only [List.length_cons, List.length_nil, Nat.zero_add, Nat.reduceAdd] at hkp
  subst hkp
  clear hC0 Bl
  replace hT := hT.below b2
  replace Zd := Zd.below b2
  replace Bd := Bd.under b2
  replace sl := sl.below b2
  replace Br := Br.under b2
  replace Bs := Bs.under b2
  replace bb := bb.trans (b2.mono bb.size)
  obtain ⟨Brq0, Brq1, Brq2, Brr0, Brr1, Brr2⟩ := Br.three
  have Brl := Br.lt
  replace hT := hT.alloc (.cells #[.int .i64 100, .slice Ax 2 2, .int .i64 (-1), .bool false, .int .i64 2] 36)
  replace Zd := Zd.alloc (.cells #[.int .i64 100, .slice Ax 2 2, .int .i64 (-1), .bool false, .int .i64 2] 36)
  replace Bd := Bd.alloc (.cells #[.int .i64 100, .slice Ax 2 2, .int .i64 (-1), .bool false, .int .i64 2] 36)
  replace sl := sl.alloc (.cells #[.int .i64 100, .slice Ax 2 2, .int .i64 (-1), .bool false, .int .i64 2] 36)
  replace Br := Br.alloc (.cells #[.int .i64 100, .slice Ax 2 2, .int .i64 (-1), .bool false, .int .i64 2] 36)
  replace Bs := Bs.alloc (.cells #[.int .i64 100, .slice Ax 2 2, .int .i64 (-1), .bool false, .int .i64 2] 36)
  replace Zx := Zx.alloc (.cells #[.int .i64 100, .slice Ax 2 2, .int .i64 (-1), .bool false, .int .i64 2] 36)
  replace Rp2 := Rp2.alloc (.cells #[.int .i64 100, .slice Ax 2 2, .int .i64 (-1), .bool false, .int .i64 2] 36)
  replace bb := bb.alloc bb.size (.cells #[.int .i64 100, .slice Ax 2 2, .int .i64 (-1), .bool false, .int .i64 2] 36)
  have Bx := Blk.new w2 #[.int .i64 100, .slice Ax 2 2, .int .i64 (-1), .bool false, .int .i64 2] 36
  replace hT := hT.alloc (.cells #[.int .i64 1, .int .i64 5, .slice (some ⟨w1.heap.size + 1, 0, none⟩) 40 40] 26)
  replace Zd := Zd.alloc (.cells #[.int .i64 1, .int .i64 5, .slice (some ⟨w1.heap.size + 1, 0, none⟩) 40 40] 26)
  replace Bd := Bd.alloc (.cells #[.int .i64 1, .int .i64 5, .slice (some ⟨w1.heap.size + 1, 0, none⟩) 40 40] 26)
  replace sl := sl.alloc (.cells #[.int .i64 1, .int .i64 5, .slice (some ⟨w1.heap.size + 1, 0, none⟩) 40 40] 26)
  replace Br := Br.alloc (.cells #[.int .i64 1, .int .i64 5, .slice (some ⟨w1.heap.size + 1, 0, none⟩) 40 40] 26)
  replace Bs := Bs.alloc (.cells #[.int .i64 1, .int .i64 5, .slice (some ⟨w1.heap.size + 1, 0, none⟩) 40 40] 26)
  replace Zx := Zx.alloc (.cells #[.int .i64 1, .int .i64 5, .slice (some ⟨w1.heap.size + 1, 0, none⟩) 40 40] 26)
  replace Rp2 := Rp2.alloc (.cells #[.int .i64 1, .int .i64 5, .slice (some ⟨w1.heap.size + 1, 0, none⟩) 40 40] 26)
  replace Bx := Bx.alloc (.cells #[.int .i64 1, .int .i64 5, .slice (some ⟨w1.heap.size + 1, 0, none⟩) 40 40] 26)
  replace bb := bb.alloc bb.size (.cells #[.int .i64 1, .int .i64 5, .slice (some ⟨w1.heap.size + 1, 0, none⟩) 40 40] 26)
  have Bm := Blk.new (w2.alloc (.cells #[.int .i64 100, .slice Ax 2 2, .int .i64 (-1), .bool false, .int .i64 2] 36)) #[.int .i64 1, .int .i64 5, .slice (some ⟨w1.heap.size + 1, 0, none⟩) 40 40] 26
  simp only [World.size_alloc] at Bm
  go_wp2_with fail
  clear Brq0 Brq1 Brq2 Brr0 Brr1 Brr2
  generalize ((w2.alloc (.cells #[.int .i64 100, .slice Ax 2 2, .int .i64 (-1), .bool false, .int .i64 2] 36)).alloc (.cells #[.int .i64 1, .int .i64 5, .slice (some ⟨w1.heap.size + 1, 0, none⟩) 40 40] 26)) = W2 at *
  have hC0 := rs_rec1 (r := aw5) rfl Bm sl
  have hC := gAppend_any 100 ⟨-1, 2, false, awZ2⟩ Ax 2 2 _ 1 1 [aw5] W2 hT Zx hC0 (by omega) ⟨awD2, by decide⟩
  refine hC.mono ?_
  clear hC
  rintro e w3 hq
  rw [awFull] at hq
  obtain ⟨Ay, Aq, kq, cq, hkq, rfl, Zy, Rq2, b3⟩ := hq
  simp only [List.length_nil] at hkq
  subst hkq
  clear hC0 Bm Zy Rq2
  replace hT := hT.below b3
  replace Zd := Zd.below b3
  replace Bd := Bd.under b3
  replace sl := sl.below b3
  replace Br := Br.under b3
  replace Bs := Bs.under b3
  replace Zx := Zx.below b3
  replace Rp2 := Rp2.below b3
  replace Bx := Bx.under b3
  replace bb := bb.trans (b3.mono bb.size)
  obtain ⟨Bxq0, Bxq1, Bxq2, Bxq3, Bxq4, Bxr0, Bxr1, Bxr2, Bxr3, Bxr4⟩ := Bx.five
  have Bxl := Bx.lt
  replace hT := hT.alloc (.cells #[.int .i64 100, .slice Ay 2 2, .int .i64 (-1), .bool false, .int .i64 2] 36)
  replace Zd := Zd.alloc (.cells #[.int .i64 100, .slice Ay 2 2, .int .i64 (-1), .bool false, .int .i64 2] 36)
  replace Bd := Bd.alloc (.cells #[.int .i64 100, .slice Ay 2 2, .int .i64 (-1), .bool false, .int .i64 2] 36)
  replace sl := sl.alloc (.cells #[.int .i64 100, .slice Ay 2 2, .int .i64 (-1), .bool false, .int .i64 2] 36)
  replace Br := Br.alloc (.cells #[.int .i64 100, .slice Ay 2 2, .int .i64 (-1), .bool false, .int .i64 2] 36)
  replace Bs := Bs.alloc (.cells #[.int .i64 100, .slice Ay 2 2, .int .i64 (-1), .bool false, .int .i64 2] 36)
  replace Zx := Zx.alloc (.cells #[.int .i64 100, .slice Ay 2 2, .int .i64 (-1), .bool false, .int .i64 2] 36)
  replace Rp2 := Rp2.alloc (.cells #[.int .i64 100, .slice Ay 2 2, .int .i64 (-1), .bool false, .int .i64 2] 36)
  replace Bx := Bx.alloc (.cells #[.int .i64 100, .slice Ay 2 2, .int .i64 (-1), .bool false, .int .i64 2] 36)
  replace bb := bb.alloc bb.size (.cells #[.int .i64 100, .slice Ay 2 2, .int .i64 (-1), .bool false, .int .i64 2] 36)
  go_wp2_with fail
  clear Bxq0 Bxq1 Bxq2 Bxq3 Bxq4 Bxr0 Bxr1 Bxr2 Bxr3 Bxr4
  generalize (w3.alloc (.cells #[.int .i64 100, .slice Ay 2 2, .int .i64 (-1), .bool false, .int .i64 2] 36)) = W3 at *
  have hC := gAll_any 100 (-1) 2 false Ax 2 2 awZ2 _ W3 hT Zx awD2 awAll (by rw [awRaw]; decide)
  refine hC.mono ?_
  clear hC
  rintro e w4 ⟨Al, kl, cl, hkl, rfl, Rl, b4⟩
  replace hT := hT.below b4
  replace Zd := Zd.below b4
  replace Bd := Bd.under b4
  replace sl := sl.below b4
  replace Br := Br.under b4
  replace Bs := Bs.under b4
  replace Zx := Zx.below b4
  replace Rp2 := Rp2.below b4
  replace Bx := Bx.under b4
  replace bb := bb.trans (b4.mono bb.size)
  simp only [List.length_cons, List.length_nil, Nat.zero_add, Nat.reduceAdd] at hkl
  subst hkl
  obtain ⟨Bxq0, Bxq1, Bxq2, Bxq3, Bxq4, Bxr0, Bxr1, Bxr2, Bxr3, Bxr4⟩ := Bx.five
  have Bxl := Bx.lt
  go_wp2_with fail
  clear Bxq0 Bxq1 Bxq2 Bxq3 Bxq4 Bxr0 Bxr1 Bxr2 Bxr3 Bxr4
  have hC := gPlace_any 100 (-1) 2 40 false Ax 2 2 awZ2 w4 Zx
  refine hC.mono ?_
  clear hC
  rintro e w5 hq
  rw [awPl40.1, awPl40.2.1, awPl40.2.2] at hq
  obtain ⟨Ac, cc, rfl, _, b5⟩ := hq
  replace hT := hT.below b5
  replace Zd := Zd.below b5
  replace Bd := Bd.under b5
  replace sl := sl.below b5
  replace Br := Br.under b5
  replace Bs := Bs.under b5
  replace Zx := Zx.below b5
  replace Rp2 := Rp2.below b5
  replace Bx := Bx.under b5
  replace Rl := Rl.below b5
  replace bb := bb.trans (b5.mono bb.size)
  obtain ⟨Bxq0, Bxq1, Bxq2, Bxq3, Bxq4, Bxr0, Bxr1, Bxr2, Bxr3, Bxr4⟩ := Bx.five
  have Bxl := Bx.lt
  go_wp2_with fail
  clear Bxq0 Bxq1 Bxq2 Bxq3 Bxq4 Bxr0 Bxr1 Bxr2 Bxr3 Bxr4
  have hC := gPlace_any 100 (-1) 2 101 false Ax 2 2 awZ2 w5 Zx
  refine hC.mono ?_
  clear hC
  rintro e w6 hq
  rw [awPl101.1, awPl101.2.1, awPl101.2.2] at hq
  obtain ⟨Ae, ce, rfl, _, b6⟩ := hq
  replace hT := hT.below b6
  replace Zd := Zd.below b6
  replace Bd := Bd.under b6
  replace sl := sl.below b6
  replace Br := Br.under b6
  replace Bs := Bs.under b6
  replace Zx := Zx.below b6
  replace Rp2 := Rp2.below b6
  replace Bx := Bx.under b6
  replace Rl := Rl.below b6
  replace bb := bb.trans (b6.mono bb.size)
  obtain ⟨gp, op, p0, rfl, _, _, hp0, cp0⟩ := Rs.cp_at Rp2 (show 0 < 2 by omega)
  obtain ⟨gp', op', p1, e', _, _, hp1, cp1⟩ := Rs.cp_at Rp2 (show 1 < 2 by omega)
  cases e'
  cases hp0
  cases hp1
  simp only [cpx00, cpx10, Nat.add_zero] at cp0 cp1
  obtain ⟨gl, ol, x1, Ai, ci, rfl, _, _, hx1, d0, d1, d2, d3, d4, _⟩ := Rs.fnd_at Rl (show 1 < 2 by omega)
  cases hx1
  have d1' : w6.cell? ⟨gl, ol + 1 * 5 + 1, none⟩ = some (.int .i64 6) := d1
  have d1'' : w6.cell? ⟨gl, ol + 5 + 1, none⟩ = some (.int .i64 6) := d1
  have hcr := Rl.cap
  have hcp := Rp2.cap
  have hbr := Rl.big
  have hbp := Rp2.big
  simp only [List.length_nil]
  clear d0 d1 d2 d3 d4
  go_wp2_with fail
  have hC := gRun_any (some ⟨gl, ol, none⟩) 2 cl _ 5 w6 Rl (by omega) (by omega) (by omega) (by intro x hx; simp only [List.mem_cons, List.not_mem_nil, or_false] at hx; rcases hx with rfl | rfl <;> decide) _ awRun5
  refine hC.mono ?_
  clear hC
  rintro e w7 ⟨Ar, kr, cr, hkr, rfl, _, b7⟩
  replace hT := hT.below b7
  replace Zd := Zd.below b7
  replace Bd := Bd.under b7
  replace sl := sl.below b7
  replace Br := Br.under b7
  replace Bs := Bs.under b7
  replace Zx := Zx.below b7
  replace Rp2 := Rp2.below b7
  replace Bx := Bx.under b7
  replace Rl := Rl.below b7
  replace bb := bb.trans (b7.mono bb.size)
  simp only [List.length_cons, List.length_nil, Nat.zero_add, Nat.reduceAdd] at hkr
  subst hkr
  go_wp2_with fail
  have hC := gRun_any (some ⟨gl, ol, none⟩) 2 cl _ 4 w7 Rl (by omega) (by omega) (by omega) (by intro x hx; simp only [List.mem_cons, List.not_mem_nil, or_false] at hx; rcases hx with rfl | rfl <;> decide) _ awRun4
  refine hC.mono ?_
  clear hC
  rintro e w8 ⟨As, ks, cs, hks, rfl, _, b8⟩
  replace hT := hT.below b8
  replace Zd := Zd.below b8
  replace Bd := Bd.under b8
  replace sl := sl.below b8
  replace Br := Br.under b8
  replace Bs := Bs.under b8
  replace Zx := Zx.below b8
  replace Rp2 := Rp2.below b8
  replace Bx := Bx.under b8
  replace Rl := Rl.below b8
  replace bb := bb.trans (b8.mono bb.size)
  simp only [List.length_nil] at hks
  subst hks
  obtain ⟨Bxq0, Bxq1, Bxq2, Bxq3, Bxq4, Bxr0, Bxr1, Bxr2, Bxr3, Bxr4⟩ := Bx.five
  have Bxl := Bx.lt
  go_wp2_with fail
  clear Bxq0 Bxq1 Bxq2 Bxq3 Bxq4 Bxr0 Bxr1 Bxr2 Bxr3 Bxr4
  have hC := gEmpty_any 100 (-1) 2 false Ax 2 2 awZ2 w8 Zx
  refine hC.mono ?_
  clear hC
  rintro e w9 ⟨rfl, b9⟩
  replace hT := hT.below b9
  replace Zd := Zd.below b9
  replace Bd := Bd.under b9
  replace sl := sl.below b9
  replace Br := Br.under b9
  replace Bs := Bs.under b9
  replace Zx := Zx.below b9
  replace Rp2 := Rp2.below b9
  replace Bx := Bx.under b9
  replace Rl := Rl.below b9
  replace bb := bb.trans (b9.mono bb.size)
  rw [awE2]
  obtain ⟨Bdq0, Bdq1, Bdq2, Bdq3, Bdq4, Bdr0, Bdr1, Bdr2, Bdr3, Bdr4⟩ := Bd.five
  have Bdl := Bd.lt
  go_wp2_with fail
  clear Bdq0 Bdq1 Bdq2 Bdq3 Bdq4 Bdr0 Bdr1 Bdr2 Bdr3 Bdr4
  have hC := gEmpty_any 100 (-1) 0 false Ad 2 2 awZ0 w9 Zd
  refine hC.mono ?_
  clear hC
  rintro e w10 ⟨rfl, b10⟩
  replace hT := hT.below b10
  replace Zd := Zd.below b10
  replace Bd := Bd.under b10
  replace sl := sl.below b10
  replace Br := Br.under b10
  replace Bs := Bs.under b10
  replace Zx := Zx.below b10
  replace Rp2 := Rp2.below b10
  replace Bx := Bx.under b10
  replace Rl := Rl.below b10
  replace bb := bb.trans (b10.mono bb.size)
  rw [awE0]
  go_wp2
  go_ret
  exact ⟨rfl, bb⟩
end Go.Proofs.YtnejiclghnigiaaDoor
namespace Go.Proofs.YtnejiclghnigiaaDoor
open Go.RowKit Go.Wag
set_option linter.unusedVariables false
set_option maxRecDepth 20000

/-- Each zone begins with what it had. -/
def PreZ (zs zs' : List Zp) : Prop := ∀ (i : Nat) (z : Zp), zs[i]? = some z → ∃ (z' : Zp) (t : List UInt8), zs'[i]? = some z' ∧ z'.l = z.l ++ t
theorem PreZ.refl (zs : List Zp) : PreZ zs zs := fun i z h => ⟨z, [], h, by simp⟩
theorem PreZ.trans {a b c : List Zp} (h : PreZ a b) (k : PreZ b c) : PreZ a c := fun i z hz => by
  obtain ⟨y, t, hy, e⟩ := h i z hz
  obtain ⟨x, u, hx, e2⟩ := k i y hy
  exact ⟨x, t ++ u, hx, by rw [e2, e, List.append_assoc]⟩
theorem pre_chg {zs : List Zp} {N : Int} {H : Zp → Zp} {E : Zp → Int} (hk : ZKp H E) : PreZ zs (chgZs zs N H E) := fun i z hz => by
  by_cases hN : 0 ≤ N ∧ N < zs.length
  · have hl : N.toNat < zs.length := by omega
    have hzN := List.getElem?_eq_getElem hl
    rw [(chg_yes H E hN hzN).1]
    by_cases hE : E zs[N.toNat] = 0
    · rw [if_pos hE, List.getElem?_set]
      by_cases hi : N.toNat = i
      · subst hi
        rw [if_pos rfl, if_pos hl]
        obtain rfl : zs[N.toNat] = z := Option.some.inj (hzN.symm.trans hz)
        obtain ⟨t, ht⟩ := hk _ hE
        exact ⟨_, t, rfl, ht⟩
      · rw [if_neg hi]
        exact ⟨z, [], hz, by simp⟩
    · rw [if_neg hE]
      exact ⟨z, [], hz, by simp⟩
  · rw [(chg_no H E hN).1]
    exact ⟨z, [], hz, by simp⟩
theorem pre_ru {size : Int} {zs : List Zp} (lf : Int) (dw : Bool) (kd N : Int) (b : List UInt8) (h2 : kd ≠ 2) : PreZ zs (ruZs size lf dw zs kd N b) := by
  unfold ruZs
  split
  · simp only [cmdZs, if_neg h2]
    repeat' split
    · exact pre_chg (zkp_ap _ _ _)
    · exact pre_chg (fun z _ => ⟨[], by simp [fiH]⟩)
    · exact pre_chg (fun z _ => ⟨[], by simp [clH]⟩)
    · exact fun i z hz => ⟨fsZ z, [], by rw [List.getElem?_map, hz]; rfl, by simp [fsZ]⟩
    · exact PreZ.refl _
  · exact PreZ.refl _
theorem pnCs_kind (size : Int) (zs : List Zp) (r : Rp) : ∀ c ∈ pnCs size zs r, c.k ≠ 2 := by
  intro c hc
  rw [pnCs, List.mem_append] at hc
  rcases hc with hc | hc
  · rw [plCs] at hc
    split at hc
    · split at hc
      · simp at hc
      · split at hc
        · simp at hc
        · simp only [List.mem_singleton] at hc
          subst hc
          simp
    · simp at hc
  · simp only [List.mem_singleton] at hc
    subst hc
    simp
theorem doAll_keep (size : Int) : ∀ (cs : List Rp) (d : Dp), (∀ c ∈ cs, c.k ≠ 2) → devF size d.zs = true ∧ d.lf < 9223372036854775808 →
    PreZ d.zs (doAll size d cs).1.zs ∧ (devF size (doAll size d cs).1.zs = true ∧ (doAll size d cs).1.lf < 9223372036854775808) ∧ (doAll size d cs).1.zs.length = d.zs.length
  | [], d, _, h => ⟨PreZ.refl _, h, rfl⟩
  | c :: cs, d, hk, h => by
    have hp : PreZ d.zs (doS size d c).zs := pre_ru _ _ _ _ _ (hk c (List.mem_cons_self ..))
    have ho := doS_ok c h
    have hl : (doS size d c).zs.length = d.zs.length := len_ru _ _ _ _ _ _ _
    rw [doAll]
    split
    · obtain ⟨h1, h2, h3⟩ := doAll_keep size cs (doS size d c) (fun x hx => hk x (List.mem_cons_of_mem _ hx)) ho
      exact ⟨hp.trans h1, h2, h3.trans hl⟩
    · exact ⟨hp, ho, hl⟩
theorem apS_keep (size : Int) : ∀ (rs : List Rp) (d : Dp), devF size d.zs = true ∧ d.lf < 9223372036854775808 →
    PreZ d.zs (apS size d rs).1.zs ∧ devF size (apS size d rs).1.zs = true ∧ (apS size d rs).1.zs.length = d.zs.length ∧ (apS size d rs).2.1.length ≤ rs.length ∧ ((apS size d rs).2.2 = 0 → (apS size d rs).2.1.length = rs.length)
  | [], d, h => ⟨PreZ.refl _, h.1, rfl, Nat.le_refl _, fun _ => rfl⟩
  | r :: rs, d, h => by
    obtain ⟨h1, h2, h3⟩ := doAll_keep size (pnCs size d.zs r) d (pnCs_kind _ _ _) h
    rw [apS]
    split
    · split
      · obtain ⟨k1, k2, k3, k4, k5⟩ := apS_keep size rs _ h2
        exact ⟨h1.trans k1, k2, k3.trans h3, by simp only [List.length_cons]; omega, fun e => by simp only [List.length_cons]; rw [k5 e]⟩
      · rename_i hne
        exact ⟨h1, h2.1, h3, Nat.zero_le _, fun e => absurd e hne⟩
    · rename_i hne
      exact ⟨PreZ.refl _, h.1, rfl, Nat.zero_le _, fun e => absurd e hne⟩

def bodF (rs : List Rp) : Bool := decide (rs.length ≤ 20) && rs.all (fun r => decide (r.l.length ≤ 300))
set_option maxHeartbeats 1000000 in
theorem lbodies_any {F : Nat → Prop} (A : Option Addr) (n c : Nat) (rs : List Rp) (w : World) (h : Rs recE F w A n c rs) :
    Calls Tryd.prog 13 #[.slice A n c] w fun e w' => e = .returned (.bool (bodF rs)) ∧ w = w' := by
  have hlen := h.len
  have hcap := h.cap
  have hbig := h.big
  go_enter Tryd.func13, Tryd.ntmps13
  by_cases h20 : (20 : Int) < (n : Int)
  · have hb : Hid (bodF rs = false) := by
      show bodF rs = false
      simp [bodF]
      omega
    go_wp2
    go_ret
    rw [hb.out]
    exact ⟨rfl, rfl⟩
  · go_wp2_with fail
    go_loopg [3] n (fun g iv wr => ∃ k : Nat, k + g = n ∧ iv = .int .i64 (k : Int) ∧ Aside (∀ j r, j < k → rs[j]? = some r → r.l.length ≤ 300) ∧ w = wr)
    case atStart => exact ⟨0, by omega, rfl, fun j r hj => absurd hj (by omega), rfl⟩
    case round =>
      obtain ⟨k, hk, rfl, hall, rfl⟩ := hrel
      by_cases hlt : (k : Int) < (n : Int)
      · obtain ⟨g, rfl⟩ : ∃ g, gk = g + 1 := ⟨gk - 1, by omega⟩
        obtain ⟨gb, o, r, Ai, ci, rfl, hF, hg, hr, c0, c1, c2, hS, hA⟩ := Rs.rec_at h (show k < n by omega)
        by_cases hb : (300 : Int) < (r.l.length : Int)
        · have hb2 : Hid (bodF rs = false) := by
            show bodF rs = false
            simp only [bodF, Bool.and_eq_false_iff]
            right
            rw [List.all_eq_false]
            exact ⟨r, List.mem_of_getElem? hr, by simp; omega⟩
          clear hr
          go_wp2
          go_ret
          rw [hb2.out]
          exact ⟨rfl, rfl⟩
        · have hk1 : Aside (∀ j r, j < k + 1 → rs[j]? = some r → r.l.length ≤ 300) := fun j x hj hx => by
            by_cases hjk : j = k
            · subst hjk
              cases hr.symm.trans hx
              omega
            · exact hall.out j x (by omega) hx
          clear hr
          go_wp2
          go_roundg g
          case measure => omega
          case rel => exact ⟨k + 1, by omega, by first | rfl | (simp; done), hk1, rfl⟩
      · have hb2 : Hid (bodF rs = true) := by
          show bodF rs = true
          simp only [bodF, Bool.and_eq_true, decide_eq_true_eq, List.all_eq_true]
          refine ⟨by omega, fun r hr => ?_⟩
          obtain ⟨j, hj, rfl⟩ := List.mem_iff_getElem.1 hr
          exact hall.out j _ (by omega) (List.getElem?_eq_getElem hj)
        go_wp2
        go_ret
        rw [hb2.out]
        exact ⟨rfl, rfl⟩
theorem bodF_all {rs : List Rp} (h : bodF rs = true) : rs.length ≤ 20 ∧ ∀ r ∈ rs, r.l.length ≤ 300 := by
  simpa [bodF] using h
end Go.Proofs.YtnejiclghnigiaaDoor
namespace Go.Proofs.YtnejiclghnigiaaDoor
open Go.RowKit Go.Wag
set_option linter.unusedVariables false
set_option maxRecDepth 20000

theorem do_go {size : Int} {d : Dp} (hd : devF size d.zs = true) (hl : d.lf = -1) (hw : d.dw = false) (c : Rp) : doE size d c = cmdEr size d.zs c.k c.s c.l ∧ (doS size d c).zs = cmdZs size d.zs c.k c.s c.l ∧ (doS size d c).lf = -1 ∧ (doS size d c).dw = false := by
  refine ⟨?_, ?_, ?_, ?_⟩
  · simp [doE, ruEr, hd, hl, hw, upF]
  · simp [doS, ruZs, goF, hd, hl, hw, upF]
  · simp [doS, ruLf, goF, hd, hl, hw, upF]
  · simp [doS, ruDw, hd, hl, hw, upF]
theorem app_at {size : Int} {zs : List Zp} {k : Nat} {z : Zp} {b : List UInt8} (hd : devF size zs = true) (hz : zs[k]? = some z) (hb : 1 ≤ (b.length : Int)) (h : (z.st = 1 ∧ (b.length : Int) ≤ roomF z.st z.rs z.l.length z.la size) ∨ (z.st = 0 ∧ openF zs < 3 ∧ (b.length : Int) ≤ size)) :
    cmdEr size zs 1 (k : Int) b = 0 ∧ ∃ z', cmdZs size zs 1 (k : Int) b = zs.set k z' ∧ z'.l = z.l ++ b := by
  have hk : k < zs.length := (List.getElem?_eq_some_iff.1 hz).1
  have hN : 0 ≤ (k : Int) ∧ (k : Int) < zs.length := by omega
  have hz2 : zs[(k : Int).toNat]? = some z := by simpa using hz
  have hchk : chkF z.st z.rs z.l.length z.la size = true := (dev_parts.1 hd).2 z (List.mem_of_getElem? hz)
  have hno : apNo (openF zs) z = false := by
    rcases h with ⟨h1, _⟩ | ⟨h1, h2, _⟩
    · simp [apNo, h1]
    · simp [apNo, h1]
      omega
  have her : appErrF z.st z.rs z.l.length z.la size b.length = 0 := by
    have hroom : (b.length : Int) ≤ roomF z.st z.rs z.l.length z.la size := by
      rcases h with ⟨_, h2⟩ | ⟨h1, _, h3⟩
      · exact h2
      · have := (chk_all hchk).2.2.2.2.2.2.2.2.2.1 h1
        rw [roomF, if_pos ⟨hchk, by omega⟩]
        omega
    rw [appErrF, if_pos ⟨hchk, by omega⟩, if_pos hroom]
  have hE : apE size (openF zs) b z = 0 := by
    rw [apE, hno]
    simpa using her
  obtain ⟨h1, h2⟩ := chg_yes (apH size (openF zs) b) (apE size (openF zs) b) hN hz2
  refine ⟨?_, apH size (openF zs) b z, ?_, ?_⟩
  · rw [cmdEr, if_pos rfl, h2, hE]
  · rw [cmdZs, if_pos rfl, h1, if_pos hE]
    simp
  · rw [apH, hno]
    simp [appDa, her]

/-- A device whose zones are records. -/
structure Lg (size : Int) (d : Dp) (rss : List (List Rp)) : Prop where
  dev : devF size d.zs = true
  op : openF d.zs ≤ 3
  lf : d.lf = -1
  dw : d.dw = false
  data : d.zs.map Zp.l = rss.map allB
  ok : ∀ rs ∈ rss, ∀ r ∈ rs, r.ok = true
theorem rec_ok_of {size : Int} {zs : List Zp} {r : Rp} (h : pnEr size zs r = 0) : r.ok = true ∧ plEr size zs ((recB r).length : Int) = 0 := by
  cases hk : r.ok with
  | true =>
    rw [pnEr, if_pos hk] at h
    exact ⟨rfl, h⟩
  | false =>
    rw [pnEr, if_neg (by rw [hk]; decide)] at h
    omega
theorem set_data {zs : List Zp} {rss : List (List Rp)} {k : Nat} {z z' : Zp} {r : Rp} (hd : zs.map Zp.l = rss.map allB) (hz : zs[k]? = some z) (h' : z'.l = z.l ++ recB r) : ∃ rs, rss[k]? = some rs ∧ z.l = allB rs ∧ (zs.set k z').map Zp.l = (rss.set k (rs ++ [r])).map allB := by
  have h1 : (rss.map allB)[k]? = some z.l := by rw [← hd, List.getElem?_map, hz]; rfl
  rw [List.getElem?_map, Option.map_eq_some_iff] at h1
  obtain ⟨rs, h2, h3⟩ := h1
  refine ⟨rs, h2, h3.symm, ?_⟩
  rw [List.map_set, List.map_set, hd, allB_snoc, h', h3]
theorem ap_one {size : Int} {d : Dp} {rss : List (List Rp)} {r : Rp} (h : Lg size d rss) (he : pnEr size d.zs r = 0) : ∃ (d' : Dp) (k : Nat) (rs : List Rp), doAll size d (pnCs size d.zs r) = (d', 0) ∧ pnZn size d.zs r = (k : Int) ∧ rss[k]? = some rs ∧ zlen d.zs (k : Int) = ((allB rs).length : Int) ∧ Lg size d' (rss.set k (rs ++ [r])) := by
  obtain ⟨hok, hpl⟩ := rec_ok_of he
  obtain ⟨b, hb⟩ : ∃ b, recB r = b := ⟨_, rfl⟩
  have hbl : 1 ≤ (b.length : Int) := by rw [← hb, recB_length]; omega
  have hpl0 := hpl
  rw [hb] at hpl
  rw [plEr] at hpl
  split at hpl
  case isFalse => omega
  rename_i hcond
  obtain ⟨_, hm1, hm2⟩ := hcond
  have fin : ∀ (dd : Dp) (k : Nat) (z : Zp), devF size dd.zs = true → openF dd.zs ≤ 3 → dd.lf = -1 → dd.dw = false → dd.zs.map Zp.l = rss.map allB → dd.zs[k]? = some z → ((z.st = 1 ∧ (b.length : Int) ≤ roomF z.st z.rs z.l.length z.la size) ∨ (z.st = 0 ∧ openF dd.zs < 3 ∧ (b.length : Int) ≤ size)) →
      ∃ d' rs, doAll size dd [⟨1, (k : Int), b⟩] = (d', 0) ∧ rss[k]? = some rs ∧ z.l = allB rs ∧ Lg size d' (rss.set k (rs ++ [r])) := by
    intro dd k z h1 h2 h3 h4 h5 hz hc
    obtain ⟨e1, z', e2, e3⟩ := app_at h1 hz hbl hc
    obtain ⟨g1, g2, g3, g4⟩ := do_go h1 h3 h4 ⟨1, (k : Int), b⟩
    obtain ⟨rs, r1, r2, r3⟩ := set_data (r := r) h5 hz (by rw [e3, hb])
    have hk2 := ok_ru (size := size) dd.lf dd.dw 1 (k : Int) b h1 h2
    refine ⟨doS size dd ⟨1, (k : Int), b⟩, rs, ?_, r1, r2, ⟨hk2.1, hk2.2, g3, g4, ?_, ?_⟩⟩
    · rw [doAll, g1, if_pos e1, doAll]
    · rw [g2]
      simp only
      rw [e2, r3]
    · intro x hx y hy
      rcases List.mem_or_eq_of_mem_set hx with hx | rfl
      · exact h.ok x hx y hy
      · rcases List.mem_append.1 hy with hy | hy
        · exact h.ok rs (List.mem_of_getElem? r1) y hy
        · simp only [List.mem_singleton] at hy
          subst hy
          exact hok
  by_cases hi : 0 ≤ idxF (roomy size b.length) d.zs
  · rcases idx_cases (roomy size b.length) d.zs with ⟨h2, _⟩ | ⟨k, z, h2, h3, h4, h5, _⟩
    · omega
    · simp only [roomy, isO, Bool.and_eq_true, decide_eq_true_eq] at h5
      obtain ⟨d', rs, f1, f2, f3, f4⟩ := fin d k z h.dev h.op h.lf h.dw h.data h4 (.inl h5)
      have hz : pnZn size d.zs r = (k : Int) := by rw [pnZn, plZn, if_pos hpl0, hb, if_pos hi, h2]
      refine ⟨d', k, rs, ?_, hz, f2, by rw [zlen_at h4, f3], f4⟩
      rw [pnCs, plCs, if_pos hpl0, hb, if_pos hi, hz]
      exact f1
  · rw [if_neg hi] at hpl
    rcases idx_cases isE d.zs with ⟨h2, _⟩ | ⟨k, z, h2, h3, h4, h5, _⟩
    · rw [if_pos (by omega)] at hpl
      omega
    · simp only [isE, decide_eq_true_eq] at h5
      have hz : pnZn size d.zs r = (k : Int) := by rw [pnZn, plZn, if_pos hpl0, hb, if_neg hi, h2]
      by_cases ho : openF d.zs < 3
      · obtain ⟨d', rs, f1, f2, f3, f4⟩ := fin d k z h.dev h.op h.lf h.dw h.data h4 (.inr ⟨h5, ho, hm2⟩)
        refine ⟨d', k, rs, ?_, hz, f2, by rw [zlen_at h4, f3], f4⟩
        rw [pnCs, plCs, if_pos hpl0, hb, if_neg hi, if_pos ho, hz]
        exact f1
      · rcases idx_cases isO d.zs with ⟨_, hall⟩ | ⟨j, y, h6, h7, h8, h9, _⟩
        · exfalso
          have : openF d.zs = 0 := by
            rw [openF, List.countP_eq_zero]
            intro x hx
            have := hall x hx
            simpa [isO] using this
          omega
        · simp only [isO, decide_eq_true_eq] at h9
          have hjk : j ≠ k := fun e => by
            subst e
            rw [h4] at h8
            cases h8
            omega
          obtain ⟨g1, g2, g3, g4⟩ := do_go h.dev h.lf h.dw ⟨3, (j : Int), []⟩
          have hN : 0 ≤ (j : Int) ∧ (j : Int) < d.zs.length := by omega
          obtain ⟨c1, c2⟩ := chg_yes (N := (j : Int)) fiH fiE hN (by simpa using h8)
          have hfe : fiE y = 0 := by simp [fiE, finEr, h9]
          have e1 : cmdEr size d.zs 3 (j : Int) [] = 0 := by
            simp only [cmdEr, show ¬ ((3 : Int) = 1) by decide, show ¬ ((3 : Int) = 2) by decide, if_false, if_true, c2, hfe]
          have e2 : cmdZs size d.zs 3 (j : Int) [] = d.zs.set j (fiH y) := by
            simp only [cmdZs, show ¬ ((3 : Int) = 1) by decide, show ¬ ((3 : Int) = 2) by decide, if_false, if_true, c1, hfe]
            simp
          have hk2 := ok_ru (size := size) d.lf d.dw 3 (j : Int) [] h.dev h.op
          have hos := open_set (z' := fiH y) h8
          have hfs : (fiH y).st = 3 := by simp [fiH, finSt, h9]
          rw [if_pos h9, if_neg (by rw [hfs]; decide)] at hos
          have g2' : (doS size d ⟨3, (j : Int), []⟩).zs = d.zs.set j (fiH y) := g2.trans e2
          have hop := h.op
          obtain ⟨d', rs, f1, f2, f3, f4⟩ := fin (doS size d ⟨3, (j : Int), []⟩) k z hk2.1 hk2.2 g3 g4 (by rw [g2', List.map_set, show (fiH y).l = y.l from rfl, ← h.data]; exact List.ext_getElem? (fun i => by
              rw [List.getElem?_set]
              split
              · rename_i e
                subst e
                rw [List.getElem?_map, h8]
                simp
                omega
              · rfl)) (by rw [g2', List.getElem?_set_ne hjk]; exact h4) (.inr ⟨h5, by rw [g2']; omega, hm2⟩)
          refine ⟨d', k, rs, ?_, hz, f2, by rw [zlen_at h4, f3], f4⟩
          have hjI : idxF isO d.zs = (j : Int) := h6
          rw [pnCs, plCs, if_pos hpl0, hb, if_neg hi, if_neg ho, hz, hjI, List.cons_append, List.nil_append, doAll, g1]
          simp only
          rw [if_pos e1]
          exact f1
end Go.Proofs.YtnejiclghnigiaaDoor
namespace Go.Proofs.YtnejiclghnigiaaDoor
open Go.RowKit Go.Wag
set_option linter.unusedVariables false
set_option maxRecDepth 20000

def rawR : Nat → List (List Rp) → List Fp
  | _, [] => []
  | i, rs :: rss => (laidAt 0 rs).map (fun x => ⟨x.1, (i : Int), (x.2 : Int)⟩) ++ rawR (i + 1) rss
theorem raw_lg : ∀ (zs : List Zp) (rss : List (List Rp)) (i : Nat), zs.map Zp.l = rss.map allB → (∀ rs ∈ rss, ∀ r ∈ rs, r.ok = true) → rawG i zs = rawR i rss
  | [], [], _, _, _ => rfl
  | [], _ :: _, _, h, _ => by simp at h
  | _ :: _, [], _, h, _ => by simp at h
  | z :: zs, rs :: rss, i, h, hok => by
    simp only [List.map_cons, List.cons.injEq] at h
    rw [rawG, rawR, raw_lg zs rss (i + 1) h.2 (fun x hx => hok x (List.mem_cons_of_mem _ hx)), zoneF, h.1, sc_recs (hok rs (List.mem_cons_self ..))]
theorem raw_set : ∀ (rss : List (List Rp)) (k i : Nat) (rs : List Rp) (r : Rp), rss[k]? = some rs → (rawR i (rss.set k (rs ++ [r]))).Perm (rawR i rss ++ [⟨r, ((i + k : Nat) : Int), ((allB rs).length : Int)⟩])
  | [], _, _, _, _, h => by simp at h
  | x :: rss, 0, i, rs, r, h => by
    simp only [List.getElem?_cons_zero, Option.some.injEq] at h
    subst h
    rw [List.set_cons_zero, rawR, rawR, laid_snoc, List.map_append, List.append_assoc, List.append_assoc]
    refine List.Perm.append_left _ ?_
    simp only [List.map_cons, List.map_nil, Nat.zero_add, Nat.add_zero]
    exact List.perm_append_comm
  | x :: rss, k + 1, i, rs, r, h => by
    rw [List.getElem?_cons_succ] at h
    have ih := raw_set rss k (i + 1) rs r h
    rw [List.set_cons_succ, rawR, rawR, List.append_assoc]
    refine List.Perm.append_left _ ?_
    rw [show i + (k + 1) = i + 1 + k by omega]
    exact ih
def mkF (x : Rp × (Int × Int)) : Fp := ⟨x.1, x.2.1, x.2.2⟩
theorem apS_lg (size : Int) : ∀ (rs : List Rp) (d : Dp) (rss : List (List Rp)), Lg size d rss → ∃ rss', Lg size (apS size d rs).1 rss' ∧ (rawR 0 rss').Perm (rawR 0 rss ++ (rs.zip (apS size d rs).2.1).map mkF) ∧ rss'.length = rss.length ∧ ((apS size d rs).2.2 ≠ 0 → ∃ zs r, r ∈ rs ∧ devF size zs = true ∧ pnEr size zs r = (apS size d rs).2.2)
  | [], d, rss, h => ⟨rss, h, by simp [apS], rfl, fun e => absurd rfl e⟩
  | r :: rs, d, rss, h => by
    rw [apS]
    by_cases he : pnEr size d.zs r = 0
    · rw [if_pos he]
      obtain ⟨d', k, rk, h1, h2, h3, h4, h5⟩ := ap_one h he
      rw [h1, if_pos rfl]
      obtain ⟨rss', k1, k2, k3, k4⟩ := apS_lg size rs d' _ h5
      refine ⟨rss', k1, ?_, by rw [k3, List.length_set], fun e => ?_⟩
      · refine k2.trans ?_
        refine ((raw_set rss k 0 rk r h3).append_right _).trans ?_
        rw [h2, h4, Nat.zero_add, List.zip_cons_cons, List.map_cons, List.append_assoc]
        exact List.Perm.refl _
      · obtain ⟨zs, x, hx, y1, y2⟩ := k4 e
        exact ⟨zs, x, List.mem_cons_of_mem _ hx, y1, y2⟩
    · rw [if_neg he]
      exact ⟨rss, h, by simp, rfl, fun _ => ⟨d.zs, r, List.mem_cons_self .., h.dev, rfl⟩⟩
theorem pnEr_small {size : Int} {zs : List Zp} {r : Rp} (hd : devF size zs = true) (hk : r.ok = true) (hl : ((recB r).length : Int) ≤ size) : pnEr size zs r = 0 ∨ pnEr size zs r = 60 := by
  have h1 : 1 ≤ ((recB r).length : Int) := by rw [recB_length]; omega
  rw [pnEr, if_pos hk, plEr, if_pos ⟨hd, h1, hl⟩]
  split
  · exact .inl rfl
  · split
    · exact .inr rfl
    · exact .inl rfl
theorem laid_read : ∀ (rs : List Rp) (p at_ : Nat) (r : Rp), (r, at_) ∈ laidAt p rs → p ≤ at_ ∧ ((allB rs).drop (at_ - p)).take (recB r).length = recB r ∧ at_ - p + (recB r).length ≤ (allB rs).length
  | [], _, _, _, h => by cases h
  | x :: rs, p, at_, r, h => by
    have hB : allB (x :: rs) = recB x ++ allB rs := by simp [allB]
    rw [laidAt] at h
    rcases List.mem_cons.1 h with e | h
    · cases e
      rw [Nat.sub_self, List.drop_zero, hB]
      exact ⟨Nat.le_refl _, by rw [List.take_append_of_le_length (Nat.le_refl _), List.take_length], by rw [List.length_append]; omega⟩
    · obtain ⟨h1, h2, h3⟩ := laid_read rs _ at_ r h
      refine ⟨by omega, ?_, ?_⟩
      · rw [hB, List.drop_append, List.drop_of_length_le (by omega), List.nil_append, show at_ - p - (recB x).length = at_ - (p + (recB x).length) by omega]
        exact h2
      · rw [hB, List.length_append]
        omega
theorem mem_rawR : ∀ (rss : List (List Rp)) (i : Nat) (f : Fp), f ∈ rawR i rss → ∃ (k : Nat) (rs : List Rp) (a : Nat), f.zn = ((i + k : Nat) : Int) ∧ rss[k]? = some rs ∧ f.at_ = (a : Int) ∧ (f.r, a) ∈ laidAt 0 rs
  | [], _, _, h => by cases h
  | rs :: rss, i, f, h => by
    rw [rawR] at h
    rcases List.mem_append.1 h with h | h
    · obtain ⟨x, hx, rfl⟩ := List.mem_map.1 h
      exact ⟨0, rs, x.2, rfl, rfl, rfl, hx⟩
    · obtain ⟨k, rk, a, h1, h2, h3, h4⟩ := mem_rawR rss (i + 1) f h
      exact ⟨k + 1, rk, a, by rw [h1]; congr 1; omega, h2, h3, h4⟩
/-- What a place that was told reads as. -/
theorem lg_read {size : Int} {d : Dp} {rss : List (List Rp)} {f : Fp} (h : Lg size d rss) (hf : f ∈ rawR 0 rss) : ∃ (k a : Nat), f.zn = (k : Int) ∧ f.at_ = (a : Int) ∧ k < d.zs.length ∧ rdOk size d.zs (k : Int) (a : Int) ((recB f.r).length : Int) = true ∧ rdF size d.zs (k : Int) (a : Int) ((recB f.r).length : Int) = recB f.r := by
  obtain ⟨k, rs, a, h1, h2, h3, h4⟩ := mem_rawR rss 0 f hf
  obtain ⟨_, h5, h6⟩ := laid_read rs 0 a f.r h4
  rw [Nat.sub_zero] at h5 h6
  have hd : (d.zs.map Zp.l)[k]? = some (allB rs) := by rw [h.data, List.getElem?_map, h2]; rfl
  rw [List.getElem?_map, Option.map_eq_some_iff] at hd
  obtain ⟨z, hz, hzl⟩ := hd
  have hk := (List.getElem?_eq_some_iff.1 hz).1
  refine ⟨k, a, by rw [h1, Nat.zero_add], h3, hk, ?_, ?_⟩
  · simp only [rdOk, h.dev, Bool.true_and, Bool.and_eq_true, decide_eq_true_eq, Int.toNat_natCast, hz, Option.elim_some, hzl]
    refine ⟨by omega, by omega⟩
  · simp only [rdF, Int.toNat_natCast, hz, Option.elim_some, hzl]
    rw [show ((a : Int) + ((recB f.r).length : Int)).toNat = a + (recB f.r).length by omega, List.drop_take, show a + (recB f.r).length - a = (recB f.r).length by omega]
    exact h5
theorem lg_new {size : Int} {n : Nat} (h : mayF n size = true) : Lg size ⟨-1, 0, false, List.replicate n zero4⟩ (List.replicate n []) := by
  refine ⟨?_, ?_, rfl, rfl, ?_, ?_⟩
  · rw [dev_parts]
    refine ⟨by simpa using h, fun z hz => ?_⟩
    rw [List.eq_of_mem_replicate hz]
    simp only [mayF, decide_eq_true_eq] at h
    simp [zchk, chkF, zero4]
    omega
  · have : openF (List.replicate n zero4) = 0 := by
      rw [openF, List.countP_eq_zero]
      intro z hz
      rw [List.eq_of_mem_replicate hz]
      decide
    show openF (List.replicate n zero4) ≤ 3
    omega
  · simp [zero4, allB]
  · intro rs hrs
    rw [List.eq_of_mem_replicate hrs]
    intro r hr
    cases hr
theorem raw_new : ∀ (n i : Nat), rawR i (List.replicate n []) = []
  | 0, _ => rfl
  | n + 1, i => by rw [List.replicate_succ, rawR, raw_new n (i + 1)]; rfl

/-! Runs. -/
theorem run_seq (xs : List Fp) : ∀ (g : Nat) (s : Int) (i : Nat) (r : Rp), (runN xs g s)[i]? = some r → r.s = s + i
  | 0, _, _, _, h => by simp [runN] at h
  | g + 1, s, i, r, h => by
    cases hid : idxS xs s with
    | none => rw [run_none hid] at h; simp at h
    | some j =>
      obtain ⟨x, hx, hs, _⟩ := idxS_some hid
      by_cases hm : s = 9223372036854775807
      · rw [run_last hid hx hm] at h
        cases i with
        | zero => simp at h; subst h; rw [hs]; simp
        | succ i => simp at h
      · rw [run_some hid hx hm] at h
        cases i with
        | zero => simp at h; subst h; rw [hs]; simp
        | succ i =>
          rw [List.getElem?_cons_succ] at h
          have := run_seq xs g (s + 1) i r h
          rw [this]
          omega
theorem idx_no {xs : List Fp} {s : Int} (h : idxS xs s = none) : ∀ x ∈ xs, x.r.s ≠ s := by
  intro x hx e
  unfold idxS at h
  rw [List.findIdx?_eq_none_iff] at h
  have := h x hx
  simp [e] at this
theorem run_stop (xs : List Fp) (hx : ∀ x ∈ xs, x.r.s < 9223372036854775807) : ∀ (g : Nat) (s : Int), leftN xs s < g → ∀ x ∈ xs, x.r.s ≠ s + (runN xs g s).length
  | 0, s, h => absurd h (by omega)
  | g + 1, s, h => by
    cases hid : idxS xs s with
    | none =>
      rw [run_none hid]
      intro x hxx
      simpa using idx_no hid x hxx
    | some j =>
      obtain ⟨y, hy, hs, _⟩ := idxS_some hid
      have hm : s ≠ 9223372036854775807 := by
        have := hx y (List.mem_of_getElem? hy)
        omega
      rw [run_some hid hy hm]
      have := run_stop xs hx g (s + 1) (by have := left_step hid; omega)
      intro x hxx
      have := this x hxx
      simp only [List.length_cons]
      omega
theorem run_from {Z : List Fp} (hz : ∀ (i : Nat) (f : Fp), Z[i]? = some f → f.r.s = (i : Int)) (hb : Z.length < 1000000) : ∀ (g k : Nat), Z.length < k + g → k ≤ Z.length → runN Z g (k : Int) = (Z.drop k).map (·.r)
  | 0, k, h, h2 => by omega
  | g + 1, k, h, h2 => by
    by_cases hk : k < Z.length
    · have hid : idxS Z (k : Int) = some k := by
        unfold idxS
        rw [List.findIdx?_eq_some_iff_getElem]
        refine ⟨hk, by simpa using hz k _ (List.getElem?_eq_getElem hk), fun j hj => ?_⟩
        have := hz j _ (List.getElem?_eq_getElem (by omega))
        simp [this]
        omega
      rw [run_some hid (List.getElem?_eq_getElem hk) (by omega), show (k : Int) + 1 = ((k + 1 : Nat) : Int) by omega, run_from hz hb g (k + 1) (by omega) (by omega), List.drop_eq_getElem_cons hk]
      rfl
    · have hid : idxS Z (k : Int) = none := by
        unfold idxS
        rw [List.findIdx?_eq_none_iff]
        intro f hf
        obtain ⟨j, hj, rfl⟩ := List.mem_iff_getElem.1 hf
        have := hz j _ (List.getElem?_eq_getElem hj)
        simp [this]
        omega
      rw [run_none hid, List.drop_of_length_le (by omega)]
      rfl
theorem run_from0 {Z : List Fp} (hz : ∀ (i : Nat) (f : Fp), Z[i]? = some f → f.r.s = (i : Int)) (hb : Z.length < 1000000) : runF Z 0 = Z.map (·.r) := by
  have := run_from hz hb (Z.length + 1) 0 (by omega) (by omega)
  rw [List.drop_zero] at this
  exact this
theorem run_mem (xs : List Fp) : ∀ (g : Nat) (s : Int), ∀ r ∈ runN xs g s, ∃ x ∈ xs, x.r = r
  | 0, _, r, h => by simp [runN] at h
  | g + 1, s, r, h => by
    cases hid : idxS xs s with
    | none => rw [run_none hid] at h; cases h
    | some j =>
      obtain ⟨x, hx, hs, _⟩ := idxS_some hid
      have hm := List.mem_of_getElem? hx
      by_cases hmx : s = 9223372036854775807
      · rw [run_last hid hx hmx] at h
        simp only [List.mem_singleton] at h
        exact ⟨x, hm, h.symm⟩
      · rw [run_some hid hx hmx] at h
        rcases List.mem_cons.1 h with h | h
        · exact ⟨x, hm, h.symm⟩
        · exact run_mem xs g (s + 1) r h
end Go.Proofs.YtnejiclghnigiaaDoor
namespace Go.Proofs.YtnejiclghnigiaaDoor
open Go.RowKit Go.Wag
set_option linter.unusedVariables false
set_option maxRecDepth 20000

/-! What lasts stays, and bytes stand where they stood. -/
def KeZ (zs zs' : List Zp) : Prop := ∀ (i : Nat) (z : Zp), zs[i]? = some z → ∃ (z' : Zp) (t : List UInt8), zs'[i]? = some z' ∧ z'.l = z.l ++ t ∧ z.la ≤ z'.la
theorem KeZ.refl (zs : List Zp) : KeZ zs zs := fun i z h => ⟨z, [], h, by simp, Int.le_refl _⟩
theorem KeZ.trans {a b c : List Zp} (h : KeZ a b) (k : KeZ b c) : KeZ a c := fun i z hz => by
  obtain ⟨y, t, hy, e, l1⟩ := h i z hz
  obtain ⟨x, u, hx, e2, l2⟩ := k i y hy
  exact ⟨x, t ++ u, hx, by rw [e2, e, List.append_assoc], by omega⟩
theorem ke_chg {zs : List Zp} {N : Int} {H : Zp → Zp} {E : Zp → Int} (hk : ∀ z, E z = 0 → ∃ t, (H z).l = z.l ++ t ∧ (H z).la = z.la) : KeZ zs (chgZs zs N H E) := fun i z hz => by
  by_cases hN : 0 ≤ N ∧ N < zs.length
  · have hl : N.toNat < zs.length := by omega
    have hzN := List.getElem?_eq_getElem hl
    rw [(chg_yes H E hN hzN).1]
    by_cases hE : E zs[N.toNat] = 0
    · rw [if_pos hE, List.getElem?_set]
      by_cases hi : N.toNat = i
      · subst hi
        rw [if_pos rfl, if_pos hl]
        obtain rfl : zs[N.toNat] = z := Option.some.inj (hzN.symm.trans hz)
        obtain ⟨t, ht, hla⟩ := hk _ hE
        exact ⟨_, t, rfl, ht, by omega⟩
      · rw [if_neg hi]
        exact ⟨z, [], hz, by simp, Int.le_refl _⟩
    · rw [if_neg hE]
      exact ⟨z, [], hz, by simp, Int.le_refl _⟩
  · rw [(chg_no H E hN).1]
    exact ⟨z, [], hz, by simp, Int.le_refl _⟩
theorem ke_ru {size : Int} {zs : List Zp} (lf : Int) (dw : Bool) (kd N : Int) (b : List UInt8) (h2 : kd ≠ 2) (hd : devF size zs = true) : KeZ zs (ruZs size lf dw zs kd N b) := by
  unfold ruZs
  split
  · simp only [cmdZs, if_neg h2]
    repeat' split
    · refine ke_chg (fun z hE => ?_)
      obtain ⟨t, ht⟩ := zkp_ap size (openF zs) b z hE
      refine ⟨t, ht, ?_⟩
      rw [apH]
      split <;> rfl
    · exact ke_chg (fun z _ => ⟨[], by simp [fiH], rfl⟩)
    · exact ke_chg (fun z _ => ⟨[], by simp [clH], rfl⟩)
    · exact fun i z hz => ⟨fsZ z, [], by rw [List.getElem?_map, hz]; rfl, by simp [fsZ], by
        have hla : z.la ≤ z.l.length := (chk_all ((dev_parts.1 hd).2 z (List.mem_of_getElem? hz))).2.2.2.2.2.2.2.2.1
        simpa [fsZ] using hla⟩
    · exact KeZ.refl _
  · exact KeZ.refl _
theorem ke_doAll (size : Int) : ∀ (cs : List Rp) (d : Dp), (∀ c ∈ cs, c.k ≠ 2) → devF size d.zs = true ∧ d.lf < 9223372036854775808 → KeZ d.zs (doAll size d cs).1.zs
  | [], d, _, h => KeZ.refl _
  | c :: cs, d, hk, h => by
    have hp : KeZ d.zs (doS size d c).zs := ke_ru _ _ _ _ _ (hk c (List.mem_cons_self ..)) h.1
    have ho := doS_ok c h
    rw [doAll]
    split
    · exact hp.trans (ke_doAll size cs (doS size d c) (fun x hx => hk x (List.mem_cons_of_mem _ hx)) ho)
    · exact hp
theorem ke_ap1 (size : Int) (r : Rp) (d : Dp) (h : devF size d.zs = true ∧ d.lf < 9223372036854775808) : KeZ d.zs (apS size d [r]).1.zs := by
  rw [apS]
  split
  · have := ke_doAll size (pnCs size d.zs r) d (pnCs_kind _ _ _) h
    split
    · rw [apS]
      exact this
    · exact this
  · exact KeZ.refl _

/-! Records' bytes: beginnings, and what is cut off. -/
theorem allB_pre : ∀ (us rs : List Rp) (t : List UInt8), (∀ r ∈ us, r.ok = true) → (∀ r ∈ rs, r.ok = true) → allB rs = allB us ++ t → ∃ i, us = rs.take i ∧ i ≤ rs.length
  | [], rs, t, _, _, _ => ⟨0, by simp, Nat.zero_le _⟩
  | a :: us, [], t, _, _, h => by
    have := congrArg List.length h
    have h2 := recB_length a
    simp [allB] at this
    omega
  | a :: us, r :: rs, t, ha, hr, h => by
    have e1 : allB (r :: rs) = recB r ++ allB rs := by simp [allB]
    have e2 : allB (a :: us) ++ t = recB a ++ (allB us ++ t) := by simp [allB]
    rw [e1, e2] at h
    have d1 := rd_rec (hr r (List.mem_cons_self ..)) (allB rs)
    have d2 := rd_rec (ha a (List.mem_cons_self ..)) (allB us ++ t)
    rw [h, d2] at d1
    simp only [Option.some.injEq, Prod.mk.injEq] at d1
    obtain ⟨rfl, _⟩ := d1
    have h3 := List.append_cancel_left h
    obtain ⟨i, h4, h5⟩ := allB_pre us rs t (fun x hx => ha x (List.mem_cons_of_mem _ hx)) (fun x hx => hr x (List.mem_cons_of_mem _ hx)) h3
    exact ⟨i + 1, by rw [h4]; rfl, by simp; omega⟩
def cutN : List Rp → Nat → Nat
  | [], _ => 0
  | r :: rs, k => if (recB r).length ≤ k then cutN rs (k - (recB r).length) + 1 else 0
theorem cut_take : ∀ (rs : List Rp) (k : Nat), ∃ t, (allB rs).take k = allB (rs.take (cutN rs k)) ++ t ∧ (t = [] ∨ ∃ r ∈ rs, ∃ m, m < (recB r).length ∧ t = (recB r).take m)
  | [], k => ⟨[], by simp [allB], .inl rfl⟩
  | r :: rs, k => by
    have e1 : allB (r :: rs) = recB r ++ allB rs := by simp [allB]
    rw [cutN]
    split
    · rename_i hk
      obtain ⟨t, h1, h2⟩ := cut_take rs (k - (recB r).length)
      refine ⟨t, ?_, ?_⟩
      · rw [e1, List.take_append, List.take_of_length_le hk, h1, List.take_succ_cons]
        simp [allB]
      · rcases h2 with h2 | ⟨x, hx, h2⟩
        · exact .inl h2
        · exact .inr ⟨x, List.mem_cons_of_mem _ hx, h2⟩
    · rename_i hk
      refine ⟨(recB r).take k, ?_, .inr ⟨r, List.mem_cons_self .., k, by omega, rfl⟩⟩
      rw [e1, List.take_append_of_le_length (by omega)]
      simp [allB]
theorem cut_le : ∀ (rs : List Rp) (k i : Nat), i ≤ rs.length → (allB (rs.take i)).length ≤ k → i ≤ cutN rs k
  | [], k, i, h, _ => by simp at h; omega
  | r :: rs, k, 0, _, _ => Nat.zero_le _
  | r :: rs, k, i + 1, h, hl => by
    have e1 : allB ((r :: rs).take (i + 1)) = recB r ++ allB (rs.take i) := by simp [allB]
    rw [e1, List.length_append] at hl
    rw [cutN, if_pos (by omega)]
    have := cut_le rs (k - (recB r).length) i (by simpa using h) (by omega)
    omega
theorem sc_cut {rs : List Rp} (h : ∀ r ∈ rs, r.ok = true) (k : Nat) : scF ((allB rs).take k) 0 = laidAt 0 (rs.take (cutN rs k)) := by
  obtain ⟨t, h1, h2⟩ := cut_take rs k
  have ht : ∀ x ∈ rs.take (cutN rs k), x.ok = true := fun x hx => h x (List.mem_of_mem_take hx)
  rw [h1]
  rcases h2 with rfl | ⟨r, hr, m, hm, rfl⟩
  · rw [List.append_nil]
    exact sc_recs ht
  · exact sc_recs_cut ht (h r hr) hm

/-! What is found, zone by zone. -/
theorem raw_of : ∀ (zs : List Zp) (rss : List (List Rp)) (i : Nat), zs.map (fun z => scF z.l 0) = rss.map (laidAt 0) → rawG i zs = rawR i rss
  | [], [], _, _ => rfl
  | [], _ :: _, _, h => by simp at h
  | _ :: _, [], _, h => by simp at h
  | z :: zs, rs :: rss, i, h => by
    simp only [List.map_cons, List.cons.injEq] at h
    rw [rawG, rawR, raw_of zs rss (i + 1) h.2, zoneF, h.1]
/-- Each list is a beginning of the other one's. -/
inductive PreL : List (List Rp) → List (List Rp) → Prop
  | nil : PreL [] []
  | cons {a b : List (List Rp)} (rs : List Rp) (i : Nat) : PreL a b → PreL (rs.take i :: a) (rs :: b)
theorem laid_take : ∀ (rs : List Rp) (p i : Nat), laidAt p (rs.take i) = (laidAt p rs).take i
  | [], p, i => by simp [laidAt]
  | r :: rs, p, 0 => by simp [laidAt]
  | r :: rs, p, i + 1 => by
    rw [List.take_succ_cons, laidAt, laidAt, laid_take rs _ i, List.take_succ_cons]
theorem raw_pre {a b : List (List Rp)} (h : PreL a b) : ∀ i, (rawR i a).Sublist (rawR i b) := by
  induction h with
  | nil => exact fun i => List.Sublist.refl _
  | cons rs j _ ih =>
    intro i
    rw [rawR, rawR, laid_take]
    exact ((List.take_sublist _ _).map _).append (ih (i + 1))
theorem preL_of {a b : List (List Rp)} (hl : a.length = b.length) (h : ∀ (i : Nat) (rs : List Rp), b[i]? = some rs → ∃ j, a[i]? = some (rs.take j)) : PreL a b := by
  induction b generalizing a with
  | nil =>
    cases a with
    | nil => exact .nil
    | cons x a => simp at hl
  | cons rs b ih =>
    cases a with
    | nil => simp at hl
    | cons x a =>
      obtain ⟨j, hj⟩ := h 0 rs rfl
      simp only [List.getElem?_cons_zero, Option.some.injEq] at hj
      subst hj
      refine .cons rs j (ih (by simpa using hl) (fun i y hy => ?_))
      simpa using h (i + 1) y (by simpa using hy)

/-- A device behind so many of the records, appended one by one. -/
structure Cr (rs : List Rp) (k : Nat) (d : Dp) (rss : List (List Rp)) (Fs : List Fp) : Prop where
  lg : Lg 300 d rss
  perm : (rawR 0 rss).Perm Fs
  map : Fs.map (·.r) = rs.take k
  le : k ≤ rs.length
/-- What was flushed behind so many records lasts. -/
def Cf (na : Nat) (d : Dp) (Fs : List Fp) : Prop := ∃ (zsA : List Zp) (rssA : List (List Rp)), KeZ zsA d.zs ∧ zsA.length = d.zs.length ∧ (∀ z ∈ zsA, z.la = z.l.length) ∧ zsA.map Zp.l = rssA.map allB ∧ (∀ rs ∈ rssA, ∀ r ∈ rs, r.ok = true) ∧ (rawR 0 rssA).Perm (Fs.take na)
/-- Records that are numbered from 0 on. -/
def NumL (rs : List Rp) : Prop := rs.length ≤ 20 ∧ ∀ (i : Nat) (r : Rp), rs[i]? = some r → r.s = (i : Int) ∧ r.l.length ≤ 60 ∧ r.ok = true
theorem cr_new (rs : List Rp) : Cr rs 0 ⟨-1, 0, false, List.replicate 12 zero4⟩ (List.replicate 12 []) [] :=
  ⟨lg_new (by decide), by rw [raw_new], by simp, Nat.zero_le _⟩
theorem cr_step {rs : List Rp} (hr : NumL rs) {k na : Nat} {d : Dp} {rss : List (List Rp)} {Fs : List Fp} (h : Cr rs k d rss Fs) {r : Rp} (hk : rs[k]? = some r) :
    (apS 300 d [r]).2.2 = 60 ∨ ((apS 300 d [r]).2.2 = 0 ∧ ∃ rss' Fs', Cr rs (k + 1) (apS 300 d [r]).1 rss' Fs' ∧ (Cf na d Fs → na ≤ k → Cf na (apS 300 d [r]).1 Fs')) := by
  obtain ⟨h1, h2, h3⟩ := hr.2 k r hk
  have hkl := (List.getElem?_eq_some_iff.1 hk).1
  rcases pnEr_small h.lg.dev h3 (by rw [recB_length]; omega) with he | he
  · right
    have hke := ke_ap1 300 r d ⟨h.lg.dev, by rw [h.lg.lf]; decide⟩
    obtain ⟨d', kk, rk, g1, g2, g3, g4, g5⟩ := ap_one h.lg he
    have e1 : apS 300 d [r] = (d', [(pnZn 300 d.zs r, zlen d.zs (pnZn 300 d.zs r))], 0) := by
      rw [apS, if_pos he, g1, if_pos rfl, apS]
    rw [e1] at hke ⊢
    have hp := (raw_set rss kk 0 rk r g3).trans (h.perm.append_right _)
    refine ⟨rfl, rss.set kk (rk ++ [r]), Fs ++ [_], ⟨g5, hp, ?_, hkl⟩, fun hc hna => ?_⟩
    · rw [List.map_append, h.map, List.take_add_one, hk]
      rfl
    · obtain ⟨zsA, rssA, c1, c2, c3, c4, c5, c6⟩ := hc
      have hl : d'.zs.length = d.zs.length := by
        have a1 := congrArg List.length h.lg.data
        have a2 := congrArg List.length g5.data
        simp only [List.length_map, List.length_set] at a1 a2
        omega
      refine ⟨zsA, rssA, c1.trans hke, c2.trans hl.symm, c3, c4, c5, ?_⟩
      have hFl : Fs.length = k := by
        have := congrArg List.length h.map
        simp only [List.length_map, List.length_take] at this
        omega
      rw [List.take_append_of_le_length (by omega)]
      exact c6
  · left
    rw [apS, if_neg (by omega), he]
theorem cr_flush {rs : List Rp} {k : Nat} {d : Dp} {rss : List (List Rp)} {Fs : List Fp} (h : Cr rs k d rss Fs) :
    doE 300 d ⟨5, 0, []⟩ = 0 ∧ Cr rs k (doS 300 d ⟨5, 0, []⟩) rss Fs ∧ Cf k (doS 300 d ⟨5, 0, []⟩) Fs := by
  obtain ⟨g1, g2, g3, g4⟩ := do_go h.lg.dev h.lg.lf h.lg.dw ⟨5, 0, []⟩
  have hk2 := ok_ru (size := 300) d.lf d.dw 5 0 [] h.lg.dev h.lg.op
  have e2 : (doS 300 d ⟨5, 0, []⟩).zs = d.zs.map fsZ := by
    rw [g2]
    simp [cmdZs]
  have hm : (d.zs.map fsZ).map Zp.l = d.zs.map Zp.l := by
    rw [List.map_map]
    exact List.map_congr_left (fun z _ => rfl)
  have hFl : Fs.length = k := by
    have := congrArg List.length h.map
    have := h.le
    simp only [List.length_map, List.length_take] at *
    omega
  refine ⟨by rw [g1]; simp [cmdEr], ⟨⟨hk2.1, hk2.2, g3, g4, by rw [e2, hm, h.lg.data], h.lg.ok⟩, h.perm, h.map, h.le⟩, d.zs.map fsZ, rss, ?_, by rw [e2], fun z hz => ?_, by rw [hm, h.lg.data], h.lg.ok, ?_⟩
  · rw [e2]
    exact KeZ.refl _
  · obtain ⟨y, _, rfl⟩ := List.mem_map.1 hz
    rfl
  · rw [← hFl, List.take_length]
    exact h.perm
/-- What is found behind a crash, of what was found ahead. -/
structure Cx (na : Nat) (Z S : List Fp) : Prop where
  p : ∃ P : Fp → Bool, S = Z.filter P ∧ ∀ (i : Nat) (f : Fp), i < na → Z[i]? = some f → P f = true
theorem cr_end {rs : List Rp} (hr : NumL rs) {na : Nat} {d : Dp} {rss : List (List Rp)} {Fs : List Fp} (h : Cr rs rs.length d rss Fs) (hc : Cf na d Fs) (hna : na ≤ rs.length) (ks : List Int) :
    ∃ Z S, allF d.zs = Z ∧ allF (cdZs 300 ks d.zs) = S ∧ Cx na Z S ∧ Z.length = rs.length ∧ S.length ≤ rs.length ∧ (rawG 0 d.zs).length ≤ 20 ∧ (rawG 0 (cdZs 300 ks d.zs)).length ≤ 20 ∧ devF 300 d.zs = true ∧ devF 300 (cdZs 300 ks d.zs) = true := by
  have hraw := raw_lg d.zs rss 0 h.lg.data h.lg.ok
  have hFl : Fs.length = rs.length := by
    have := congrArg List.length h.map
    simpa using this
  have hmap := h.map
  rw [List.take_length] at hmap
  have hs : ∀ (i : Nat) (f : Fp), Fs[i]? = some f → f.r.s = (i : Int) := fun i f hf => by
    have h1 : (Fs.map (·.r))[i]? = some f.r := by rw [List.getElem?_map, hf]; rfl
    rw [hmap] at h1
    exact (hr.2 i _ h1).1
  have hpw : Fs.Pairwise (fun a b => seqK a < seqK b) := by
    rw [List.pairwise_iff_getElem]
    intro i j hi hj hij
    have h1 := hs i _ (List.getElem?_eq_getElem hi)
    have h2 := hs j _ (List.getElem?_eq_getElem hj)
    show Fs[i].r.s < Fs[j].r.s
    omega
  have hnd : Fs.Nodup := hpw.imp (fun {a b} hab e => by subst e; omega)
  have hall : allF d.zs = Fs := by
    rw [allF, hraw]
    exact sortK_eq seqK h.perm.symm hpw
  have hl : (d.zs.map Zp.l).length = (rss.map allB).length := by rw [h.lg.data]
  simp only [List.length_map] at hl
  -- zones behind the crash
  obtain ⟨rss', hrss'⟩ : ∃ x, x = d.zs.mapIdx (fun i z => ((rss[i]?).getD []).take (cutN ((rss[i]?).getD []) (crK z.l.length z.la (keepAt ks i)).toNat)) := ⟨_, rfl⟩
  have hat : ∀ (i : Nat) (z : Zp), d.zs[i]? = some z → ∃ rk, rss[i]? = some rk ∧ z.l = allB rk ∧ rss'[i]? = some (rk.take (cutN rk (crK z.l.length z.la (keepAt ks i)).toNat)) ∧ (crZ 300 (keepAt ks i) z).l = z.l.take (crK z.l.length z.la (keepAt ks i)).toNat ∧ (∀ r ∈ rk, r.ok = true) := fun i z hz => by
    have hd : (d.zs.map Zp.l)[i]? = some z.l := by rw [List.getElem?_map, hz]; rfl
    rw [h.lg.data, List.getElem?_map, Option.map_eq_some_iff] at hd
    obtain ⟨rk, h1, h2⟩ := hd
    refine ⟨rk, h1, h2.symm, ?_, ?_, fun r hx => h.lg.ok rk (List.mem_of_getElem? h1) r hx⟩
    · rw [hrss', List.getElem?_mapIdx, hz]
      simp [h1]
    · have hck : chkF z.st z.rs z.l.length z.la 300 = true := (dev_parts.1 h.lg.dev).2 z (List.mem_of_getElem? hz)
      simp only [crZ, crDa, hck, if_true]
  have hl' : rss'.length = rss.length := by rw [hrss', List.length_mapIdx]; exact hl
  have hpre : PreL rss' rss := preL_of hl' (fun i rk hrk => by
    have hi := (List.getElem?_eq_some_iff.1 hrk).1
    obtain ⟨rk2, h1, _, h3, _⟩ := hat i _ (List.getElem?_eq_getElem (show i < d.zs.length by omega))
    cases hrk.symm.trans h1
    exact ⟨_, h3⟩)
  have hraw' : rawG 0 (cdZs 300 ks d.zs) = rawR 0 rss' := by
    refine raw_of _ _ _ (List.ext_getElem? (fun i => ?_))
    rw [List.getElem?_map, List.getElem?_map]
    by_cases hi : i < d.zs.length
    · obtain ⟨rk, h1, h2, h3, h4, h5⟩ := hat i _ (List.getElem?_eq_getElem hi)
      rw [cd_at 300 ks d.zs h.lg.dev (List.getElem?_eq_getElem hi), h3]
      simp only [Option.map_some, Option.some.injEq]
      rw [h4, h2]
      exact sc_cut h5 _
    · rw [List.getElem?_eq_none (by rw [len_cd]; omega), List.getElem?_eq_none (by omega)]
      rfl
  have hsub := raw_pre hpre 0
  have hndr : (rawR 0 rss).Nodup := h.perm.nodup_iff.2 hnd
  obtain ⟨P, hP⟩ : ∃ P : Fp → Bool, ∀ f, P f = true ↔ f ∈ rawR 0 rss' := by
    classical
    exact ⟨fun f => decide (f ∈ rawR 0 rss'), fun f => by simp⟩
  have hS : allF (cdZs 300 ks d.zs) = Fs.filter P := by
    rw [allF, hraw']
    refine sortK_eq seqK ?_ (hpw.sublist List.filter_sublist)
    refine (List.perm_ext_iff_of_nodup (hnd.sublist List.filter_sublist) (hndr.sublist hsub)).2 (fun f => ?_)
    rw [List.mem_filter, hP]
    exact ⟨fun hx => hx.2, fun hx => ⟨h.perm.mem_iff.1 (hsub.subset hx), hx⟩⟩
  have h20 : rs.length ≤ 20 := hr.1
  refine ⟨Fs, Fs.filter P, hall, hS, ⟨P, rfl, fun i f hi hf => ?_⟩, hFl, ?_, ?_, ?_, h.lg.dev, (cd_ok ks h.lg.dev).1⟩
  · -- what lasts
    obtain ⟨zsA, rssA, c1, c2, c3, c4, c5, c6⟩ := hc
    rw [hP]
    have hf2 : f ∈ Fs.take na := List.mem_of_getElem? (i := i) (by rw [List.getElem?_take, if_pos hi]; exact hf)
    have hf3 := c6.mem_iff.2 hf2
    have hlA : zsA.length = rssA.length := by
      have := congrArg List.length c4
      simpa using this
    have hpreA : PreL rssA rss' := preL_of (by omega) (fun j rk' hrk' => by
      have hj := (List.getElem?_eq_some_iff.1 hrk').1
      have hjA : j < zsA.length := by omega
      have hzA := List.getElem?_eq_getElem hjA
      obtain ⟨z, t, k1, k2, k3⟩ := c1 j _ hzA
      obtain ⟨rk, h1, h2, h3, h4, h5⟩ := hat j z k1
      have hdA : (zsA.map Zp.l)[j]? = some zsA[j].l := by rw [List.getElem?_map, hzA]; rfl
      rw [c4, List.getElem?_map, Option.map_eq_some_iff] at hdA
      obtain ⟨ra, a1, a2⟩ := hdA
      obtain ⟨n, b1, b2⟩ := allB_pre ra rk t (c5 ra (List.mem_of_getElem? a1)) h5 (by rw [a2, ← k2, h2])
      have hla := c3 _ (List.mem_of_getElem? hzA)
      have hck := chk_all ((dev_parts.1 h.lg.dev).2 z (List.mem_of_getElem? k1))
      have hle := cut_le rk (crK z.l.length z.la (keepAt ks j)).toNat n b2 (by
        rw [← b1, a2]
        have hlz : z.l.length = zsA[j].l.length + t.length := by rw [k2, List.length_append]
        rw [crK]
        omega)
      rw [h3] at hrk'
      cases hrk'
      refine ⟨n, ?_⟩
      rw [a1, b1, List.take_take, Nat.min_eq_left hle])
    exact (raw_pre hpreA 0).subset hf3
  · rw [← hFl]
    exact List.filter_sublist.length_le
  · rw [hraw, h.perm.length_eq]
    omega
  · rw [hraw']
    have := hsub.length_le
    rw [h.perm.length_eq] at this
    omega

/-- How many of the first i are found. -/
def cntF (P : Fp → Bool) (Z : List Fp) (i : Nat) : Nat := ((Z.take i).filter P).length
theorem cnt_step {P : Fp → Bool} {Z : List Fp} {i : Nat} {f : Fp} (h : Z[i]? = some f) : cntF P Z (i + 1) = cntF P Z i + (if P f then 1 else 0) := by
  rw [cntF, cntF, List.take_add_one, h, List.filter_append, List.length_append]
  cases hp : P f <;> simp [List.filter, hp]
theorem cnt_all (P : Fp → Bool) (Z : List Fp) : cntF P Z Z.length = (Z.filter P).length := by rw [cntF, List.take_length]
theorem cnt_yes {P : Fp → Bool} {Z : List Fp} {i : Nat} {f : Fp} (h : Z[i]? = some f) (hp : P f = true) : (Z.filter P)[cntF P Z i]? = some f := by
  have hi := (List.getElem?_eq_some_iff.1 h).1
  have e : Z.filter P = (Z.take i).filter P ++ f :: (Z.drop (i + 1)).filter P := by
    conv => lhs; rw [← List.take_append_drop i Z]
    rw [List.filter_append, List.drop_eq_getElem_cons hi]
    have : Z[i] = f := Option.some.inj ((List.getElem?_eq_getElem hi).symm.trans h)
    rw [this, List.filter_cons_of_pos hp]
  rw [cntF, e, List.getElem?_append_right (Nat.le_refl _), Nat.sub_self]
  rfl
theorem cnt_no {P : Fp → Bool} {Z : List Fp} {i : Nat} {f g : Fp} (hp : P f = false) (h : (Z.filter P)[i]? = some g) : f ≠ g := by
  intro e
  subst e
  have := (List.mem_filter.1 (List.mem_of_getElem? h)).2
  rw [hp] at this
  cases this
end Go.Proofs.YtnejiclghnigiaaDoor
namespace Go.Proofs.YtnejiclghnigiaaDoor
open Go.RowKit Go.Wag
set_option linter.unusedVariables false
set_option maxRecDepth 20000

/-- What an append makes of the zones. -/
structure Ap (size : Int) (d : Dp) (b : List UInt8) (d' : Dp) (k : Nat) : Prop where
  len : d'.zs.length = d.zs.length
  other : ∀ (i : Nat) (z : Zp), i ≠ k → d.zs[i]? = some z → ∃ z', d'.zs[i]? = some z' ∧ z'.l = z.l ∧ (z'.st = z.st ∨ (z.st = 1 ∧ z'.st = 3)) ∧ z'.rs = z.rs
  this : ∀ (z : Zp), d.zs[k]? = some z → ∃ z', d'.zs[k]? = some z' ∧ z'.l = z.l ++ b ∧ z'.st = fullF ((z.l.length : Int) + (b.length : Int)) size ∧ z'.rs = z.rs
theorem app_at2 {size : Int} {zs : List Zp} {k : Nat} {z : Zp} {b : List UInt8} (hd : devF size zs = true) (hz : zs[k]? = some z) (hb : 1 ≤ (b.length : Int)) (h : (z.st = 1 ∧ (b.length : Int) ≤ roomF z.st z.rs z.l.length z.la size) ∨ (z.st = 0 ∧ openF zs < 3 ∧ (b.length : Int) ≤ size)) :
    cmdEr size zs 1 (k : Int) b = 0 ∧ ∃ z', cmdZs size zs 1 (k : Int) b = zs.set k z' ∧ z'.l = z.l ++ b ∧ z'.st = fullF ((z.l.length : Int) + (b.length : Int)) size ∧ z'.rs = z.rs := by
  have hk : k < zs.length := (List.getElem?_eq_some_iff.1 hz).1
  have hN : 0 ≤ (k : Int) ∧ (k : Int) < zs.length := by omega
  have hz2 : zs[(k : Int).toNat]? = some z := by simpa using hz
  have hchk : chkF z.st z.rs z.l.length z.la size = true := (dev_parts.1 hd).2 z (List.mem_of_getElem? hz)
  have hno : apNo (openF zs) z = false := by
    rcases h with ⟨h1, _⟩ | ⟨h1, h2, _⟩
    · simp [apNo, h1]
    · simp [apNo, h1]
      omega
  have her : appErrF z.st z.rs z.l.length z.la size b.length = 0 := by
    have hroom : (b.length : Int) ≤ roomF z.st z.rs z.l.length z.la size := by
      rcases h with ⟨_, h2⟩ | ⟨h1, _, h3⟩
      · exact h2
      · have := (chk_all hchk).2.2.2.2.2.2.2.2.2.1 h1
        rw [roomF, if_pos ⟨hchk, by omega⟩]
        omega
    rw [appErrF, if_pos ⟨hchk, by omega⟩, if_pos hroom]
  have hE : apE size (openF zs) b z = 0 := by
    rw [apE, hno]
    simpa using her
  obtain ⟨h1, h2⟩ := chg_yes (apH size (openF zs) b) (apE size (openF zs) b) hN hz2
  refine ⟨?_, apH size (openF zs) b z, ?_, ?_, ?_, ?_⟩
  · rw [cmdEr, if_pos rfl, h2, hE]
  · rw [cmdZs, if_pos rfl, h1, if_pos hE]
    simp
  · rw [apH, hno]
    simp [appDa, her]
  · rw [apH, hno]
    simp [appSt, her]
  · rw [apH, hno]
    rfl
theorem ap_zs {size : Int} {d d' : Dp} {r : Rp} {b : List UInt8} (hdev : devF size d.zs = true) (hop : openF d.zs ≤ 3) (hlf : d.lf = -1) (hdw : d.dw = false) (hb : recB r = b) (he : pnEr size d.zs r = 0) {k : Nat} (hk : pnZn size d.zs r = (k : Int)) (hD : doAll size d (pnCs size d.zs r) = (d', 0)) : Ap size d b d' k := by
  obtain ⟨hok, hpl⟩ := rec_ok_of he
  have hbl : 1 ≤ (b.length : Int) := by rw [← hb, recB_length]; omega
  have hpl0 := hpl
  rw [hb] at hpl
  rw [plEr] at hpl
  split at hpl
  case isFalse => omega
  rename_i hcond
  obtain ⟨_, hm1, hm2⟩ := hcond
  have fin : ∀ (dd : Dp) (z : Zp), devF size dd.zs = true → dd.lf = -1 → dd.dw = false → dd.zs[k]? = some z → ((z.st = 1 ∧ (b.length : Int) ≤ roomF z.st z.rs z.l.length z.la size) ∨ (z.st = 0 ∧ openF dd.zs < 3 ∧ (b.length : Int) ≤ size)) → doAll size dd [⟨1, (k : Int), b⟩] = (d', 0) → Ap size dd b d' k := by
    intro dd z h1 h3 h4 hz hc hdd
    obtain ⟨e1, z', e2, e3, e4, e5⟩ := app_at2 h1 hz hbl hc
    obtain ⟨g1, g2, g3, g4⟩ := do_go h1 h3 h4 ⟨1, (k : Int), b⟩
    rw [doAll, g1, if_pos e1, doAll] at hdd
    have hdz : d'.zs = dd.zs.set k z' := by
      have := (Prod.mk.inj hdd).1
      rw [← this, g2]
      exact e2
    have hkl := (List.getElem?_eq_some_iff.1 hz).1
    refine ⟨by rw [hdz, List.length_set], fun i x hi hx => ⟨x, by rw [hdz, List.getElem?_set_ne (fun e => hi e.symm)]; exact hx, rfl, .inl rfl, rfl⟩, fun x hx => ⟨z', by rw [hdz, List.getElem?_set_self hkl], ?_, ?_, ?_⟩⟩
    · rw [hz] at hx
      cases hx
      exact e3
    · rw [hz] at hx
      cases hx
      exact e4
    · rw [hz] at hx
      cases hx
      exact e5
  by_cases hi : 0 ≤ idxF (roomy size b.length) d.zs
  · rcases idx_cases (roomy size b.length) d.zs with ⟨h2, _⟩ | ⟨k2, z, h2, h3, h4, h5, _⟩
    · omega
    · simp only [roomy, isO, Bool.and_eq_true, decide_eq_true_eq] at h5
      have hz : pnZn size d.zs r = (k2 : Int) := by rw [pnZn, plZn, if_pos hpl0, hb, if_pos hi, h2]
      obtain rfl : k = k2 := by omega
      rw [pnCs, plCs, if_pos hpl0, hb, if_pos hi, hz] at hD
      exact fin d z hdev hlf hdw h4 (.inl h5) hD
  · rw [if_neg hi] at hpl
    rcases idx_cases isE d.zs with ⟨h2, _⟩ | ⟨k2, z, h2, h3, h4, h5, _⟩
    · rw [if_pos (by omega)] at hpl
      omega
    · simp only [isE, decide_eq_true_eq] at h5
      have hz : pnZn size d.zs r = (k2 : Int) := by rw [pnZn, plZn, if_pos hpl0, hb, if_neg hi, h2]
      obtain rfl : k = k2 := by omega
      by_cases ho : openF d.zs < 3
      · rw [pnCs, plCs, if_pos hpl0, hb, if_neg hi, if_pos ho, hz] at hD
        exact fin d z hdev hlf hdw h4 (.inr ⟨h5, ho, hm2⟩) hD
      · rcases idx_cases isO d.zs with ⟨_, hall⟩ | ⟨j, y, h6, h7, h8, h9, _⟩
        · exfalso
          have : openF d.zs = 0 := by
            rw [openF, List.countP_eq_zero]
            intro x hx
            have := hall x hx
            simpa [isO] using this
          omega
        · simp only [isO, decide_eq_true_eq] at h9
          have hjk : j ≠ k := fun e => by
            subst e
            rw [h4] at h8
            cases h8
            omega
          obtain ⟨g1, g2, g3, g4⟩ := do_go hdev hlf hdw ⟨3, (j : Int), []⟩
          have hN : 0 ≤ (j : Int) ∧ (j : Int) < d.zs.length := by omega
          obtain ⟨c1, c2⟩ := chg_yes (N := (j : Int)) fiH fiE hN (by simpa using h8)
          have hfe : fiE y = 0 := by simp [fiE, finEr, h9]
          have e1 : cmdEr size d.zs 3 (j : Int) [] = 0 := by
            simp only [cmdEr, show ¬ ((3 : Int) = 1) by decide, show ¬ ((3 : Int) = 2) by decide, if_false, if_true, c2, hfe]
          have e2 : cmdZs size d.zs 3 (j : Int) [] = d.zs.set j (fiH y) := by
            simp only [cmdZs, show ¬ ((3 : Int) = 1) by decide, show ¬ ((3 : Int) = 2) by decide, if_false, if_true, c1, hfe]
            simp
          have hk2 := ok_ru (size := size) d.lf d.dw 3 (j : Int) [] hdev hop
          have hos := open_set (z' := fiH y) h8
          have hfs : (fiH y).st = 3 := by simp [fiH, finSt, h9]
          rw [if_pos h9, if_neg (by rw [hfs]; decide)] at hos
          have g2' : (doS size d ⟨3, (j : Int), []⟩).zs = d.zs.set j (fiH y) := g2.trans e2
          have hjI : idxF isO d.zs = (j : Int) := h6
          rw [pnCs, plCs, if_pos hpl0, hb, if_neg hi, if_neg ho, hz, hjI, List.cons_append, List.nil_append, doAll, g1] at hD
          simp only at hD
          rw [if_pos e1] at hD
          have F := fin (doS size d ⟨3, (j : Int), []⟩) z hk2.1 g3 g4 (by rw [g2', List.getElem?_set_ne hjk]; exact h4) (.inr ⟨h5, by rw [g2']; omega, hm2⟩) hD
          refine ⟨by rw [F.len, g2', List.length_set], fun i x hik hx => ?_, fun x hx => F.this x (by rw [g2', List.getElem?_set_ne hjk]; exact hx)⟩
          by_cases hij : j = i
          · subst hij
            obtain ⟨z', q1, q2, q3, q4⟩ := F.other j (fiH y) hik (by rw [g2', List.getElem?_set_self h7])
            rw [h8] at hx
            cases hx
            refine ⟨z', q1, q2, .inr ⟨h9, ?_⟩, q4⟩
            rcases q3 with q3 | q3
            · rw [q3, hfs]
            · rw [hfs] at q3
              omega
          · exact F.other i x hik (by rw [g2', List.getElem?_set_ne hij]; exact hx)

/-- A device of z zones, whose first c zones are filled by q records of s bytes, the next one has j. -/
structure Fl (z q s c j : Nat) (d : Dp) (rss : List (List Rp)) : Prop where
  lg : Lg 200 d rss
  len : d.zs.length = z
  cz : c * q + j ≤ z * q
  at_ : ∀ (i : Nat) (x : Zp), d.zs[i]? = some x → x.rs = 0 ∧ (i < c → x.l.length = q * s ∧ x.st ≠ 0) ∧ (i = c → 0 < j → x.l.length = j * s ∧ x.st = 1) ∧ (i = c → j = 0 → x.l.length = 0 ∧ x.st = 0) ∧ (c < i → x.l.length = 0 ∧ x.st = 0)
theorem full_no {s q : Nat} {x : Zp} (hs : 200 < q * s + s) (h : x.l.length = q * s) : roomy 200 (s : Int) x = false := by
  have hr : roomF x.st x.rs x.l.length x.la 200 ≤ 200 - (x.l.length : Int) ∨ roomF x.st x.rs x.l.length x.la 200 = 0 := by
    rw [roomF]
    split
    · exact .inl (Int.le_refl _)
    · exact .inr rfl
  simp only [roomy, Bool.and_eq_false_iff, decide_eq_false_iff_not]
  right
  intro hle
  have hs0 : (0 : Int) < (s : Int) ∨ s = 0 := by omega
  rw [h] at hr hle
  have hq : ((q * s : Nat) : Int) = (q : Int) * s := by simp
  rcases hs0 with h0 | h0
  · rcases hr with hr | hr <;> omega
  · subst h0
    omega
theorem fl_pick {z q s c j : Nat} {d : Dp} {rss : List (List Rp)} {r : Rp} (h : Fl z q s c j d rss) (hr : r.ok = true) (hb : (recB r).length = s) (hs1 : 1 ≤ s) (hq : q * s ≤ 200) (hs : 200 < q * s + s) (hj : j < q) (hlt : c * q + j < z * q) : pnEr 200 d.zs r = 0 ∧ pnZn 200 d.zs r = (c : Int) ∧ c < z := by
  have hq0 : 0 < q := by omega
  have hcz : c < z := by
    rcases Nat.lt_or_ge c z with h1 | h1
    · exact h1
    · have : z * q ≤ c * q := Nat.mul_le_mul_right _ h1
      omega
  have hlen := h.len
  obtain ⟨x, hx⟩ : ∃ x, d.zs[c]? = some x := ⟨_, List.getElem?_eq_getElem (by omega)⟩
  obtain ⟨_, _, h2, h3, _⟩ := h.at_ c x hx
  have hchk := (dev_parts.1 h.lg.dev).2 x (List.mem_of_getElem? hx)
  have hno : ∀ i y, i < c → d.zs[i]? = some y → roomy 200 (s : Int) y = false := fun i y hi hy => full_no hs ((h.at_ i y hy).2.1 hi).1
  have hs200 : (s : Int) ≤ 200 := by
    have : 1 * s ≤ q * s := Nat.mul_le_mul_right _ hq0
    omega
  have hdv := h.lg.dev
  rcases Nat.eq_zero_or_pos j with hj0 | hj0
  · obtain ⟨hl0, hst0⟩ := h3 rfl hj0
    have hi1 : idxF (roomy 200 (s : Int)) d.zs = -1 := idx_none (fun y hy => by
      obtain ⟨i, hi, rfl⟩ := List.mem_iff_getElem.1 hy
      have hy2 := List.getElem?_eq_getElem hi
      obtain ⟨_, _, k2, k3, k4⟩ := h.at_ i _ hy2
      rcases Nat.lt_trichotomy i c with e | e | e
      · exact hno i _ e hy2
      · have := (k3 e hj0).2
        simp [roomy, isO, this]
      · have := (k4 e).2
        simp [roomy, isO, this])
    have hi2 : idxF isE d.zs = (c : Int) := idx_at hx (by simp [isE, hst0]) (fun i y hi hy => by
      have := ((h.at_ i y hy).2.1 hi).2
      simpa [isE] using this)
    have e0 : plEr 200 d.zs (s : Int) = 0 := by rw [plEr, if_pos ⟨hdv, by omega, hs200⟩, hi1, if_neg (by omega), hi2, if_neg (by omega)]
    refine ⟨by rw [pnEr, if_pos hr, hb, e0], ?_, hcz⟩
    rw [pnZn, hb, plZn, if_pos e0, hi1, if_neg (by omega), hi2]
  · obtain ⟨hl0, hst0⟩ := h2 rfl hj0
    have hjs : j * s + s ≤ q * s := by
      have : (j + 1) * s ≤ q * s := Nat.mul_le_mul_right _ hj
      rw [Nat.add_mul] at this
      omega
    have hi1 : idxF (roomy 200 (s : Int)) d.zs = (c : Int) := idx_at hx (by
      simp only [roomy, isO, hst0, decide_true, Bool.true_and, decide_eq_true_eq]
      rw [roomF, if_pos ⟨by rw [← hst0]; exact hchk, by decide⟩, hl0]
      omega) hno
    have e0 : plEr 200 d.zs (s : Int) = 0 := by rw [plEr, if_pos ⟨hdv, by omega, hs200⟩, hi1, if_pos (by omega)]
    refine ⟨by rw [pnEr, if_pos hr, hb, e0], ?_, hcz⟩
    rw [pnZn, hb, plZn, if_pos e0, hi1, if_pos (by omega)]
theorem fl_step {z q s c j : Nat} {d : Dp} {rss : List (List Rp)} {r : Rp} (h : Fl z q s c j d rss) (hr : r.ok = true) (hb : (recB r).length = s) (hs1 : 1 ≤ s) (hq : q * s ≤ 200) (hs : 200 < q * s + s) (hj : j < q) (hlt : c * q + j < z * q) :
    ∃ d' pl rss' c' j', apS 200 d [r] = (d', pl, 0) ∧ j' < q ∧ c' * q + j' = c * q + j + 1 ∧ Fl z q s c' j' d' rss' := by
  obtain ⟨he, hk, hcz⟩ := fl_pick h hr hb hs1 hq hs hj hlt
  obtain ⟨d', k, rk, h1, h2, h3, h4, h5⟩ := ap_one h.lg he
  obtain rfl : k = c := by omega
  have A := ap_zs h.lg.dev h.lg.op h.lg.lf h.lg.dw rfl he hk h1
  have hap : apS 200 d [r] = (d', [(pnZn 200 d.zs r, zlen d.zs (pnZn 200 d.zs r))], 0) := by
    rw [apS, if_pos he, h1, if_pos rfl, apS]
  have hjs : j * s + s ≤ q * s := by
    have : (j + 1) * s ≤ q * s := Nat.mul_le_mul_right _ hj
    rw [Nat.add_mul] at this
    omega
  have old : ∀ (i : Nat) (x : Zp), d'.zs[i]? = some x → (i ≠ k → ∃ y, d.zs[i]? = some y ∧ x.l = y.l ∧ (x.st = y.st ∨ (y.st = 1 ∧ x.st = 3)) ∧ x.rs = y.rs) ∧ (i = k → ∃ y, d.zs[k]? = some y ∧ x.l.length = y.l.length + s ∧ x.st = fullF ((y.l.length : Int) + (s : Int)) 200 ∧ x.rs = y.rs) := fun i x hx => by
    have hi := (List.getElem?_eq_some_iff.1 hx).1
    rw [A.len] at hi
    have hy := List.getElem?_eq_getElem hi
    refine ⟨fun hik => ?_, fun hik => ?_⟩
    · obtain ⟨z', q1, q2, q3, q4⟩ := A.other i _ hik hy
      rw [hx] at q1
      cases q1
      exact ⟨_, hy, q2, q3, q4⟩
    · subst hik
      obtain ⟨z', q1, q2, q3, q4⟩ := A.this _ hy
      rw [hx] at q1
      cases q1
      refine ⟨_, hy, by rw [q2, List.length_append, hb], ?_, q4⟩
      rw [q3, hb]
  have hlen : d'.zs.length = z := A.len.trans h.len
  by_cases hjq : j + 1 < q
  · refine ⟨d', _, _, k, j + 1, hap, hjq, by omega, h5, hlen, by omega, fun i x hx => ?_⟩
    obtain ⟨o1, o2⟩ := old i x hx
    by_cases hik : i = k
    · obtain ⟨y, hy, l1, l2, l3⟩ := o2 hik
      obtain ⟨r0, _, y2, y3, _⟩ := h.at_ k y hy
      have hyl : y.l.length = j * s := by
        rcases Nat.eq_zero_or_pos j with e | e
        · rw [(y3 rfl e).1, e]; simp
        · exact (y2 rfl e).1
      have hfl : x.l.length = (j + 1) * s := by rw [l1, hyl, Nat.add_mul]; omega
      refine ⟨by rw [l3, r0], fun e => by omega, fun _ _ => ⟨hfl, ?_⟩, fun _ e => by omega, fun e => by omega⟩
      have : (j + 1 + 1) * s ≤ q * s := Nat.mul_le_mul_right _ (by omega)
      rw [Nat.add_mul, Nat.add_mul] at this
      rw [l2, fullF, if_neg (by rw [hyl]; omega)]
    · obtain ⟨y, hy, l1, l2, l3⟩ := o1 hik
      obtain ⟨r0, y1, _, _, y4⟩ := h.at_ i y hy
      refine ⟨by rw [l3, r0], fun e => ⟨by rw [l1]; exact (y1 e).1, ?_⟩, fun e => absurd e hik, fun e => absurd e hik, fun e => ⟨by rw [l1]; exact (y4 e).1, ?_⟩⟩
      · have := (y1 e).2
        rcases l2 with e2 | e2 <;> omega
      · have := (y4 e).2
        rcases l2 with e2 | e2 <;> omega
  · have hjq' : j + 1 = q := by omega
    refine ⟨d', _, _, k + 1, 0, hap, by omega, by rw [Nat.add_mul]; omega, h5, hlen, by rw [Nat.add_mul]; omega, fun i x hx => ?_⟩
    obtain ⟨o1, o2⟩ := old i x hx
    by_cases hik : i = k
    · obtain ⟨y, hy, l1, l2, l3⟩ := o2 hik
      obtain ⟨r0, _, y2, y3, _⟩ := h.at_ k y hy
      have hyl : y.l.length = j * s := by
        rcases Nat.eq_zero_or_pos j with e | e
        · rw [(y3 rfl e).1, e]; simp
        · exact (y2 rfl e).1
      have hfl : x.l.length = q * s := by rw [l1, hyl, ← hjq', Nat.add_mul]; omega
      refine ⟨by rw [l3, r0], fun _ => ⟨hfl, ?_⟩, fun e => by omega, fun e => by omega, fun e => by omega⟩
      rw [l2, fullF]
      split <;> decide
    · obtain ⟨y, hy, l1, l2, l3⟩ := o1 hik
      obtain ⟨r0, y1, _, _, y4⟩ := h.at_ i y hy
      have gt : k < i → x.l.length = 0 ∧ x.st = 0 := fun e => ⟨by rw [l1]; exact (y4 e).1, by
        have := (y4 e).2
        rcases l2 with e2 | e2 <;> omega⟩
      refine ⟨by rw [l3, r0], fun e => ?_, fun _ e => by omega, fun e _ => gt (by omega), fun e => gt (by omega)⟩
      have hik2 : i < k := by omega
      refine ⟨by rw [l1]; exact (y1 hik2).1, ?_⟩
      have := (y1 hik2).2
      rcases l2 with e2 | e2 <;> omega
theorem fl_end {z q s c j : Nat} {d : Dp} {rss : List (List Rp)} {r : Rp} (h : Fl z q s c j d rss) (hr : r.ok = true) (hb : (recB r).length = s) (hs1 : 1 ≤ s) (hq : q * s ≤ 200) (hs : 200 < q * s + s) (hj : j < q) (he : c * q + j = z * q) : apS 200 d [r] = (d, [], 60) ∧ emptyF d.zs = 0 ∧ c = z := by
  have hq0 : 0 < q := by omega
  have hcz : c = z := by
    rcases Nat.lt_trichotomy c z with e | e | e
    · have : (c + 1) * q ≤ z * q := Nat.mul_le_mul_right _ e
      rw [Nat.add_mul] at this
      omega
    · exact e
    · have : (z + 1) * q ≤ c * q := Nat.mul_le_mul_right _ e
      rw [Nat.add_mul] at this
      omega
  subst hcz
  have hlen := h.len
  have hall : ∀ y ∈ d.zs, y.l.length = q * s ∧ y.st ≠ 0 := fun y hy => by
    obtain ⟨i, hi, rfl⟩ := List.mem_iff_getElem.1 hy
    exact (h.at_ i _ (List.getElem?_eq_getElem hi)).2.1 (by omega)
  have hi1 : idxF (roomy 200 (s : Int)) d.zs = -1 := idx_none (fun y hy => full_no hs (hall y hy).1)
  have hi2 : idxF isE d.zs = -1 := idx_none (fun y hy => by simpa [isE] using (hall y hy).2)
  have hs200 : (s : Int) ≤ 200 := by
    have : 1 * s ≤ q * s := Nat.mul_le_mul_right _ hq0
    omega
  have e0 : pnEr 200 d.zs r = 60 := by rw [pnEr, if_pos hr, hb, plEr, if_pos ⟨h.lg.dev, by omega, hs200⟩, hi1, if_neg (by omega), hi2, if_pos (by omega)]
  refine ⟨by rw [apS, if_neg (by omega), e0], ?_, rfl⟩
  rw [emptyF, List.countP_eq_zero]
  intro y hy
  simpa [isE] using (hall y hy).2
theorem fl_reset {z q s : Nat} {d : Dp} {rss : List (List Rp)} {r : Rp} (h : Fl z q s z 0 d rss) (hz : 1 ≤ z) (hr : r.ok = true) (hb : (recB r).length = s) (hs1 : 1 ≤ s) (hs2 : s ≤ 200) (hs : 200 < q * s + s) :
    doE 200 d ⟨2, ((z - 1 : Nat) : Int), []⟩ = 0 ∧ ((doS 200 d ⟨2, ((z - 1 : Nat) : Int), []⟩).lf = -1 ∧ devF 200 (doS 200 d ⟨2, ((z - 1 : Nat) : Int), []⟩).zs = true) ∧ ∃ d', apS 200 (doS 200 d ⟨2, ((z - 1 : Nat) : Int), []⟩) [r] = (d', [(((z - 1 : Nat) : Int), 0)], 0) := by
  obtain ⟨k, rfl⟩ : ∃ k, z = k + 1 := ⟨z - 1, by omega⟩
  rw [Nat.add_sub_cancel]
  have hlen := h.len
  obtain ⟨y, hy⟩ : ∃ y, d.zs[k]? = some y := ⟨_, List.getElem?_eq_getElem (by omega)⟩
  obtain ⟨hrs, _⟩ := h.at_ k y hy
  have hchk := chk_all ((dev_parts.1 h.lg.dev).2 y (List.mem_of_getElem? hy))
  have hB : resB y.st y.rs = true := by
    simp only [resB, Bool.and_eq_true, decide_eq_true_eq]
    omega
  obtain ⟨g1, g2, g3, g4⟩ := do_go h.lg.dev h.lg.lf h.lg.dw ⟨2, (k : Int), []⟩
  have hN : 0 ≤ (k : Int) ∧ (k : Int) < d.zs.length := by omega
  obtain ⟨c1, c2⟩ := chg_yes (N := (k : Int)) rsH rsE hN (by simpa using hy)
  have hfe : rsE y = 0 := by simp [rsE, resEr, hB]
  have e1 : cmdEr 200 d.zs 2 (k : Int) [] = 0 := by
    simp only [cmdEr, show ¬ ((2 : Int) = 1) by decide, if_false, if_true, c2, hfe]
  have e2 : cmdZs 200 d.zs 2 (k : Int) [] = d.zs.set k (rsH y) := by
    simp only [cmdZs, show ¬ ((2 : Int) = 1) by decide, if_false, if_true, c1, hfe]
    simp
  have hk2 := ok_ru (size := 200) d.lf d.dw 2 (k : Int) [] h.lg.dev h.lg.op
  have g2' : (doS 200 d ⟨2, (k : Int), []⟩).zs = d.zs.set k (rsH y) := g2.trans e2
  have hst : (rsH y).st = 0 := by simp [rsH, resSt, hB]
  have hld : (rsH y).l = [] := by simp [rsH, resDa, hB]
  have hLg : Lg 200 (doS 200 d ⟨2, (k : Int), []⟩) (rss.set k []) := by
    refine ⟨hk2.1, hk2.2, g3, g4, ?_, ?_⟩
    · rw [g2', List.map_set, List.map_set, h.lg.data, hld]
      rfl
    · intro x hx w hw
      rcases List.mem_or_eq_of_mem_set hx with hx | rfl
      · exact h.lg.ok x hx w hw
      · cases hw
  have hat : ∀ (i : Nat) (x : Zp), (doS 200 d ⟨2, (k : Int), []⟩).zs[i]? = some x → (i < k → x.l.length = q * s ∧ x.st ≠ 0) ∧ (i = k → x = rsH y) := fun i x hx => by
    rw [g2'] at hx
    refine ⟨fun hi => ?_, fun hi => ?_⟩
    · rw [List.getElem?_set_ne (by omega)] at hx
      exact (h.at_ i x hx).2.1 (by omega)
    · subst hi
      rw [List.getElem?_set_self (by omega)] at hx
      exact (Option.some.inj hx).symm
  have hl2 : (doS 200 d ⟨2, (k : Int), []⟩).zs.length = k + 1 := by rw [g2', List.length_set, hlen]
  have hxk : (doS 200 d ⟨2, (k : Int), []⟩).zs[k]? = some (rsH y) := by rw [g2', List.getElem?_set_self (by omega)]
  generalize doS 200 d ⟨2, (k : Int), []⟩ = d2 at *
  have hi1 : idxF (roomy 200 (s : Int)) d2.zs = -1 := idx_none (fun x hx => by
    obtain ⟨i, hi, rfl⟩ := List.mem_iff_getElem.1 hx
    obtain ⟨p1, p2⟩ := hat i _ (List.getElem?_eq_getElem hi)
    by_cases e : i < k
    · exact full_no hs (p1 e).1
    · rw [p2 (by omega)]
      simp [roomy, isO, hst])
  have hi2 : idxF isE d2.zs = (k : Int) := idx_at hxk (by simp [isE, hst]) (fun i x hi hx => by
    have := ((hat i x hx).1 hi).2
    simpa [isE] using this)
  have e0 : plEr 200 d2.zs (s : Int) = 0 := by rw [plEr, if_pos ⟨hLg.dev, by omega, by omega⟩, hi1, if_neg (by omega), hi2, if_neg (by omega)]
  have he : pnEr 200 d2.zs r = 0 := by rw [pnEr, if_pos hr, hb, e0]
  have hzn : pnZn 200 d2.zs r = (k : Int) := by rw [pnZn, hb, plZn, if_pos e0, hi1, if_neg (by omega), hi2]
  obtain ⟨d', k', rk, h1, h2, h3, h4, h5⟩ := ap_one hLg he
  refine ⟨by rw [g1]; exact e1, ⟨g3, hLg.dev⟩, d', ?_⟩
  rw [apS, if_pos he, h1, if_pos rfl, apS, hzn, zlen_at hxk, hld]
  rfl
theorem fl_new {z q s : Nat} (hz : 1 ≤ z) (hz2 : z ≤ 64) : Fl z q s 0 0 ⟨-1, 0, false, List.replicate z zero4⟩ (List.replicate z []) := by
  refine ⟨lg_new (by simp [mayF]; omega), by simp, by omega, fun i x hx => ?_⟩
  have hx2 : x = zero4 := List.eq_of_mem_replicate (List.mem_of_getElem? hx)
  subst hx2
  exact ⟨rfl, fun e => by omega, fun _ e => by omega, fun _ _ => ⟨rfl, rfl⟩, fun _ => ⟨rfl, rfl⟩⟩
end Go.Proofs.YtnejiclghnigiaaDoor
namespace Go.Proofs.YtnejiclghnigiaaDoor
open Go.RowKit Go.Wag

theorem gTab : Tryd.prog.globalNamed "waggoner/crc.fourSteps" = some 0 := by kernel_rfl
theorem gTabT : (Tryd.prog.globals[0]?).map (·.type) = some 126 := by kernel_rfl
theorem tab_of_laid {W : World} (h : laidMetH Tryd.prog [("waggoner/crc.fourSteps", Rows.laid_waggoner_crc_fourSteps)] W) : Tab W := by
  rw [MakeChecks.laidMetH_plain _ _ _ (by kernel_rfl)] at h
  have hT : Lib.TabIs Tryd.prog W "waggoner/crc.fourSteps" .u32 tab16 :=
    Lib.tabIs_of_head (rest := []) gTab gTabT Tryd.underlying126 Tryd.underlying110 (by kernel_rfl) (by kernel_rfl) h
  intro i hi
  exact hT.cell gTab i hi
theorem door_met (os : Os) (args : Array Value) : laidMetH Tryd.prog [("waggoner/crc.fourSteps", Rows.laid_waggoner_crc_fourSteps)] ((World.doorLaid Tryd.prog 400 os).forCall (fun _ _ => 0) ⟨#[], args, []⟩).memory :=
  laidMetH_of_parts3 (fuel := 8) (laidMet_of_run' 8 (by kernel_rfl) (by kernel_rfl)) (by kernel_rfl) (by kernel_rfl)
end Go.Proofs.YtnejiclghnigiaaDoor
namespace Go.Wag
open Go.RowKit Go.ChangeShapes Go.WideShapes Go.Deep
set_option linter.unusedVariables false
/-- At cell o of a type lies a leaf of a form. -/
inductive Leaf (P : Program) : TypeId → Nat → Fm → Prop where
  | here {t : TypeId} {m : Fm} (h : FmOk P m t) (hc : P.cellsOf t = 1) : Leaf P t 0 m
  | field {t : TypeId} {fs : Array Field} {i o j : Nat} {f : Field} {m : Fm} (ht : P.underlying t = some (.struct fs)) (hf : fs[i]? = some f) (h : Leaf P f.type o m) (hj : j = f.offset + o) (hk : o < P.cellsOf f.type) (hfit : f.offset + P.cellsOf f.type ≤ P.cellsOf t) : Leaf P t j m
section
variable {H : Type} {enc : TypeId × Value → H} {P : Program} {w : World} {base : Nat} {held : Bool}
theorem leaf_of_trod {t : TypeId} {o : Nat} {m : Fm} (hL : Leaf P t o m) : ∀ {n : Nat} {cs : List Value} {y : DataW H × List MemPlace}, cs.length = P.cellsOf t → DataW.trod enc P w base (fun _ => true) held n t cs = some y → ∃ v, cs[o]? = some v ∧ FdOk m w v := by
  induction hL with
  | here h hc =>
    intro n cs y hl ht
    rw [hc] at hl
    match cs, hl with
    | [v], _ => exact ⟨v, rfl, fdOk_of_trod h ht⟩
  | field ht hf h hj hk hfit ih =>
    intro n cs y hl htr
    obtain ⟨ys, k, _, _, _, hyl, hfd⟩ := DataW.trod_struct ht htr
    have h1 := hfd _ _ hf
    have his := (Array.getElem?_eq_some_iff.1 hf).1
    rw [List.getElem?_eq_getElem (by omega)] at h1
    obtain ⟨v, hv, hok⟩ := ih (by rw [List.length_take, List.length_drop]; omega) h1
    refine ⟨v, ?_, hok⟩
    rw [List.getElem?_take, if_pos hk, List.getElem?_drop] at hv
    rw [hj]
    exact hv
theorem isSts_of_leaves {t e : TypeId} {ms : List Fm} {a : Option Addr} {len cap : Nat} {d : DataW H} {ps : List MemPlace} (ht : P.underlying t = some (.slice e)) (hC : P.cellsOf e = ms.length)
    (hF : ∀ j m, ms[j]? = some m → Leaf P e j m) (h : DataW.Trod enc P w base (fun _ => true) held t (.slice a len cap) d ps) : IsSts ms w a len cap := by
  obtain ⟨fuel, hf⟩ := h
  rcases open_slice ht hf with ⟨hcs, _⟩ | ⟨ad, l, c, m, n, D, Pl, hcs, _, hlc, hcm, hm, _, hi⟩
  · obtain ⟨rfl, rfl, rfl⟩ : a = none ∧ len = 0 ∧ cap = 0 := by simpa [Value.cells] using hcs
    exact .inl ⟨rfl, rfl, rfl⟩
  · obtain ⟨rfl, rfl, rfl⟩ : a = some ad ∧ len = l ∧ cap = c := by simpa [Value.cells] using hcs
    refine .inr ⟨ad, rfl, hlc, hcm, fun i hil j fm hj => ?_⟩
    have hmc : m = cap := by simpa using hm
    obtain ⟨cs, hc, htr⟩ := hi i (by omega)
    obtain ⟨_, hcl, hat⟩ := World.cells?_some hc
    obtain ⟨v, hv, hok⟩ := leaf_of_trod (hF j fm hj) hcl htr
    refine ⟨v, ?_, hok⟩
    have hjs : j < ms.length := (List.getElem?_eq_some_iff.1 hj).1
    rw [← add_add, ← hC, hat j (by omega), hv]
end
end Go.Wag
