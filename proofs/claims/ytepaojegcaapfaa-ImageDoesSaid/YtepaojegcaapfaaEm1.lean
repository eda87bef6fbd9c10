/-
  Contracts of package extmap: mayHave, parts, copied, New, Many.
-/
import Derived.Test.YtepaojegcaapfaaExtAwake
import Derived.Test.YtepaojegcaapfaaEmMath
import Derived.Test.YtepaojegcaapfaaStrs2
namespace Go.Wag
theorem take_one {α : Type} {xs : List α} {k : Nat} {x : α} (h : xs[k]? = some x) : xs.take (k + 1) = xs.take k ++ [x] := by
  obtain ⟨hk, rfl⟩ := List.getElem?_eq_some_iff.1 h
  rw [List.take_succ_eq_append_getElem hk]
theorem mparts_no {xs ys : List Xp} {k : Nat} {x : Xp} {a m : Int} (hz : xs[k]? = some x) (hys : mparts (xs.take k) a m = ys) (hc : xcut x a m = none) : mparts (xs.take (k + 1)) a m = ys := by
  rw [take_one hz, mparts_append, hys, mparts_cons, hc]
  exact List.append_nil _
theorem mparts_yes {xs ys : List Xp} {k : Nat} {x y : Xp} {a m : Int} (hz : xs[k]? = some x) (hys : mparts (xs.take k) a m = ys) (hc : xcut x a m = some y) : mparts (xs.take (k + 1)) a m = ys ++ [y] := by
  rw [take_one hz, mparts_append, hys, mparts_cons, hc]
  rfl
theorem mparts_len (xs : List Xp) (a m : Int) : (mparts xs a m).length ≤ xs.length := List.length_filterMap_le ..
theorem mparts_la {xs : List Xp} {a m : Int} : ∀ x ∈ mparts xs a m, x.la ≤ 9223372036854775807 := fun x hx => by
  obtain ⟨y, _, hc⟩ := mparts_mem hx
  have := Xp.all (xcut_ok hc)
  omega
theorem mmany_step {xs : List Xp} {k : Nat} {x : Xp} {kd v : Int} (hz : xs[k]? = some x) (h : mmany (xs.take k) kd = v) {u : Int} (hu : (if x.ok = true ∧ x.k = kd then x.n else 0) = u) : mmany (xs.take (k + 1)) kd = v + u := by
  rw [take_one hz, mmany_snoc, h, hu]
theorem mmany_bound (xs : List Xp) (k : Nat) (kd : Int) {n : Nat} (hk : k ≤ n) : 0 ≤ mmany (xs.take k) kd ∧ mmany (xs.take k) kd ≤ 64 * n := by
  have h1 := mmany_le (xs.take k) kd
  have h2 : (xs.take k).length ≤ k := by rw [List.length_take]; omega
  omega
end Go.Wag
namespace Go.Proofs.Ytepaojegcaapfaa
open Go.RowKit Go.Wag
set_option linter.unusedVariables false
set_option linter.unusedSimpArgs false
set_option maxRecDepth 20000
/-- Extents in memory of their own. -/
def LPost (w : World) (ys : List Xp) (e : Ending) (w' : World) : Prop := ∃ A n c, Hid (ys.length = n) ∧ e = .returned (.slice A n c) ∧ Rq extE (fun x => w.heap.size ≤ x) w.heap.size 38 w' A n c ys ∧ Below w.heap.size w w'
/-- The same, and a number. -/
def LErr (w : World) (ys : List Xp) (er : Int) (e : Ending) (w' : World) : Prop := ∃ A n c, Hid (ys.length = n) ∧ e = .returned (.tuple #[.slice A n c, .int .i64 er]) ∧ Rs extE (fun x => w.heap.size ≤ x) w' A n c ys ∧ Below w.heap.size w w'
theorem LErr.nil {w w' : World} (er : Int) (hb : Below w.heap.size w w') : LErr w [] er (.returned (.tuple #[.slice none 0 0, .int .i64 er])) w' := ⟨none, 0, 0, rfl, rfl, Rs.nil _ _ _, hb⟩
theorem rq_rs {w w' : World} {A : Option Addr} {n c : Nat} {ys : List Xp} {t : TypeId} (h : Rq extE (fun x => w.heap.size ≤ x) w.heap.size t w' A n c ys) : Rs extE (fun x => w.heap.size ≤ x) w' A n c ys := h.toRs fun _ _ hb => hb
theorem mmay_any (n : Int) (w : World) : Calls Try.prog 55 #[.int .i64 n] w fun e w' => e = .returned (.bool (decide (1 ≤ n ∧ n ≤ 64))) ∧ w = w' := by
  by_cases h0 : n ≥ 1
  · by_cases h1 : n ≤ 64
    · rw [decide_eq_true ⟨h0, h1⟩]
      go_enter Try.func55, Try.ntmps55
      go_wp2
      go_ret
      exact ⟨rfl, rfl⟩
    · rw [decide_eq_false (fun hh => h1 hh.2)]
      go_enter Try.func55, Try.ntmps55
      go_wp2
      go_ret
      exact ⟨rfl, rfl⟩
  · rw [decide_eq_false (fun hh => h0 hh.1)]
    go_enter Try.func55, Try.ntmps55
    go_wp2
    go_ret
    exact ⟨rfl, rfl⟩
set_option maxHeartbeats 4000000 in
theorem mparts_any {F : Nat → Prop} (xs : List Xp) (A : Option Addr) (n c : Nat) (a m : Int) (w : World) (h : Rs extE F w A n c xs) (hla : ∀ x ∈ xs, x.la ≤ 9223372036854775807) (hn : n ≤ 1000000000) :
    Calls Try.prog 58 #[.slice A n c, .int .i64 a, .int .i64 m] w (LPost w (mparts xs a m)) := by
  have HN : Hid (xs.length = n) := h.len
  have hcap := h.cap
  have hbig := h.big
  obtain ⟨iX, hiX, hzX, hsX, hbX⟩ := iExt
  go_enter Try.func58, Try.ntmps58
  go_wp2_with fail
  go_loopg [7, 14] n (fun g o i wr => ∃ (k : Nat) (Ar : Option Addr) (nr cr : Nat) (ys : List Xp), k + g = n ∧ o = .slice Ar nr cr ∧ i = .int .i64 (k : Int) ∧ nr ≤ k ∧ Hid (mparts (xs.take k) a m = ys) ∧ Rq extE (fun x => w.heap.size ≤ x) w.heap.size 38 wr Ar nr cr ys ∧ Below w.heap.size w wr)
  case atStart => exact ⟨0, none, 0, 0, [], by omega, rfl, rfl, by omega, rfl, Rq.nil _ _ _ _ _, Below.refl _ _⟩
  case round =>
    obtain ⟨k, Ar, nr, cr, ys, hk, rfl, rfl, hnr, hys, R, bb⟩ := hrel
    by_cases hlt : (k : Int) < (n : Int)
    · obtain ⟨g, rfl⟩ : ∃ g, gk = g + 1 := ⟨gk - 1, by omega⟩
      obtain ⟨gb, o, x, Ai, ci, rfl, _, hg, hz, c0', c1', c2', c3', c4', hS, _⟩ := h.ext_at (show k < n by omega)
      have y0 := (bb.cell hg).trans c0'
      have y1 := (bb.cell hg).trans c1'
      have y2 := (bb.cell hg).trans c2'
      have y3 := (bb.cell hg).trans c3'
      have y4 := (bb.cell hg).trans c4'
      have hxla := hla x (List.mem_iff_getElem?.2 ⟨k, hz⟩)
      have V := Blk.new wr #[.int .i64 x.la, .int .i64 x.n, .int .i64 x.k, .int .i64 x.g, .slice Ai x.l.length ci] 38
      have a1 := (Below.refl wr.heap.size wr).alloc (Nat.le_refl _) (.cells #[.int .i64 x.la, .int .i64 x.n, .int .i64 x.k, .int .i64 x.g, .slice Ai x.l.length ci] 38)
      have S1 := (hS.below bb).alloc (.cells #[.int .i64 x.la, .int .i64 x.n, .int .i64 x.k, .int .i64 x.g, .slice Ai x.l.length ci] 38)
      replace R := R.alloc (.cells #[.int .i64 x.la, .int .i64 x.n, .int .i64 x.k, .int .i64 x.g, .slice Ai x.l.length ci] 38)
      replace bb := bb.trans (a1.mono bb.size)
      cases hc : xcut x a m with
      | none =>
        have hst := Lib.hid (mparts_no hz hys.out hc)
        have hC := eCut_no x.la x.n x.k x.g Ai x.l.length ci x.l a m _ hxla S1 hc
        replace hc := Lib.hid hc
        clear V a1
        go_wp2_with fail
        refine hC.mono ?_
        generalize wr.alloc (.cells #[.int .i64 x.la, .int .i64 x.n, .int .i64 x.k, .int .i64 x.g, .slice Ai x.l.length ci] 38) = w2 at *
        clear hC S1
        rintro e w3 ⟨A4, m4, c4, hm, rfl, N4, b3⟩
        replace R := (R.below b3).alloc (.cells #[.int .i64 x0.la, .int .i64 x0.n, .int .i64 x0.k, .int .i64 x0.g, .slice A4 m4 c4] 38)
        replace bb := (bb.trans (b3.mono bb.size)).alloc (by have := bb.size; have := b3.size; omega) (.cells #[.int .i64 x0.la, .int .i64 x0.n, .int .i64 x0.k, .int .i64 x0.g, .slice A4 m4 c4] 38)
        clear b3 N4 hm y0 y1 y2 y3 y4
        go_wp2
        go_roundg g
        case measure => omega
        case rel => exact ⟨k + 1, Ar, nr, cr, ys, by omega, rfl, by first | rfl | (simp; done) | (simp; exact wrap64_small (by omega) (by omega)), by omega, hst, R, bb⟩
      | some y =>
        have hst := Lib.hid (mparts_yes hz hys.out hc)
        have hC := eCut_ok x.la x.n x.k x.g Ai x.l.length ci x.l a m _ hxla S1 hc
        replace hc := Lib.hid hc
        clear V a1
        go_wp2_with fail
        refine hC.mono ?_
        generalize wr.alloc (.cells #[.int .i64 x.la, .int .i64 x.n, .int .i64 x.k, .int .i64 x.g, .slice Ai x.l.length ci] 38) = w2 at *
        clear hC S1
        rintro e w3 ⟨A4, m4, c4, hm, rfl, N4, b3⟩
        have hw2 := bb.size
        have hro := R.lt
        have S4 := Sl.of_own N4
        have hA4 : ∀ ad, A4 = some ad → w.heap.size ≤ ad.block ∧ (Value.slice Ar nr cr).ownBlock ≠ some ad.block := fun ad e => by
          have h1 := N4.fr ad e
          refine ⟨by omega, fun e2 => ?_⟩
          have := (hro _ e2).2
          omega
        have hrd : extE.rd (fun b => w.heap.size ≤ b ∧ (Value.slice Ar nr cr).ownBlock ≠ some b) w3 [.int .i64 y.la, .int .i64 y.n, .int .i64 y.k, .int .i64 y.g, .slice A4 m4 c4] y :=
          ⟨A4, c4, by rw [hm.out], by rw [← hm.out]; exact S4, fun _ ad e => hA4 ad e⟩
        replace R := R.below b3
        replace bb := bb.trans (b3.mono bb.size)
        clear b3 N4 S4 hA4 hro hw2 y0 y1 y2 y3 y4
        have V := Blk.new w3 #[.int .i64 y.la, .int .i64 y.n, .int .i64 y.k, .int .i64 y.g, .slice A4 m4 c4] 38
        have a1 := (Below.refl w3.heap.size w3).alloc (Nat.le_refl _) (.cells #[.int .i64 y.la, .int .i64 y.n, .int .i64 y.k, .int .i64 y.g, .slice A4 m4 c4] 38)
        have a2 := a1.alloc a1.size (.cells #[.int .i64 y.la, .int .i64 y.n, .int .i64 y.k, .int .i64 y.g, .slice A4 m4 c4] 38)
        have Bs := Blk.new (w3.alloc (.cells #[.int .i64 y.la, .int .i64 y.n, .int .i64 y.k, .int .i64 y.g, .slice A4 m4 c4] 38)) #[.int .i64 y.la, .int .i64 y.n, .int .i64 y.k, .int .i64 y.g, .slice A4 m4 c4] 38
        simp only [World.size_alloc] at Bs
        replace R := R.under a2
        replace hrd := Elt.below hrd a2
        replace bb := bb.trans (a2.mono bb.size)
        have hs4 := bb.size
        clear a1 a2
        obtain ⟨A5, c5, w5, hr, R5, gr, hlies⟩ := R.app (P := Try.prog) (T := 22) (ty := 22) Try.underlying22 hiX hzX hsX hbX rfl hs4 (by omega) (by omega) hrd (one_ext _ _ _ _ _ _ _) Bs
        have hro := R.lt
        have bb6 := bb.grown gr hs4 (fun x hx => (hro x hx).1)
        clear hro gr hrd Bs hlies R bb
        obtain ⟨v0, v1, v2, v3, v4, _⟩ := V.five
        go_wp2_with (at_builtin; refine wpList_run rfl (.tmp 26) (.tmp 28) 22 rfl rfl rfl hr ?_; intro _)
        go_roundg g
        case measure => omega
        case rel => exact ⟨k + 1, A5, _, c5, _, by omega, rfl, by first | rfl | (simp; done) | (simp; exact wrap64_small (by omega) (by omega)), by omega, hst, R5, bb6⟩
    · obtain rfl : k = n := by omega
      go_wp2
      go_ret
      rw [List.take_of_length_le (by have := HN.out; omega)] at hys
      have := hys.out
      subst this
      exact ⟨Ar, nr, cr, R.len, rfl, R, bb⟩
end Go.Proofs.Ytepaojegcaapfaa
