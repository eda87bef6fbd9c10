/-
  Contracts of package extmap: copied, New, Many, Check (written by gen_em2.py).
-/
import Derived.Test.YtagageidiebogaaEm1
namespace Go.Wag
open Go.RowKit
theorem mchain_end {p : Option Xp} {e b : Int} : mchain p e [] b = decide (e = b) := rfl
theorem drop_one {α : Type} {xs : List α} {k : Nat} {x : α} (h : xs[k]? = some x) : xs.drop k = x :: xs.drop (k + 1) := by
  obtain ⟨hk, rfl⟩ := List.getElem?_eq_some_iff.1 h
  exact List.drop_eq_getElem_cons hk
/-- What goes on at extent k. -/
theorem mchain_no1 {xs : List Xp} {k : Nat} {x : Xp} {p : Option Xp} {e b : Int} (hz : xs[k]? = some x) (hx : x.ok = false ∨ ¬ x.la = e) : mchain p e (xs.drop k) b = false := by
  rw [drop_one hz, mchain_cons]
  rcases hx with h | h
  · simp [h]
  · simp [h]
theorem mchain_no2 {xs : List Xp} {k : Nat} {x y : Xp} {p : Option Xp} {e b : Int} (hz : xs[k]? = some x) (hp : p = some y) (hj : xjoins y x = true) : mchain p e (xs.drop k) b = false := by
  rw [drop_one hz, mchain_cons]
  subst hp
  simp [hj]
theorem mchain_yes {xs : List Xp} {k : Nat} {x : Xp} {p : Option Xp} {e b : Int} (hz : xs[k]? = some x) (h1 : x.ok = true) (h2 : x.la = e) (hj : ∀ y, p = some y → xjoins y x = false) : mchain p e (xs.drop k) b = mchain (some x) (e + x.n) (xs.drop (k + 1)) b := by
  rw [drop_one hz, mchain_cons]
  cases p with
  | none => simp [h1, h2]
  | some y => simp [h1, h2, hj y rfl]
theorem rq_one {w : World} {B : Nat} {F : Nat → Prop} {t : TypeId} (x : Xp) {A : Option Addr} {n c : Nat} (hn : x.l.length = n) (hb : B ≤ w.heap.size) (hS : Sl w A n c (x.l.map v8)) (hA : 0 < n → ∀ ad, A = some ad → F ad.block) : Rq extE F B t (w.alloc (.cells #[.int .i64 x.la, .int .i64 x.n, .int .i64 x.k, .int .i64 x.g, .slice A n c] t)) (some ⟨w.heap.size, 0, none⟩) 1 1 [x] := by
  subst hn
  refine ⟨rfl, [.int .i64 x.la, .int .i64 x.n, .int .i64 x.k, .int .i64 x.g, .slice A x.l.length c], ⟨rfl, .inr ⟨w.heap.size, 1, #[.int .i64 x.la, .int .i64 x.n, .int .i64 x.k, .int .i64 x.g, .slice A x.l.length c], rfl, hb, heap_alloc_new w _, Nat.le_refl _, by decide, rfl, rfl⟩⟩, fun i y hi => ?_⟩
  obtain rfl : i = 0 := by
    have := (List.getElem?_eq_some_iff.1 hi).1
    simp at this
    omega
  cases hi
  refine ⟨_, ⟨A, c, rfl, hS.alloc _, fun h0 ad e => ⟨hA h0 ad e, fun e2 => ?_⟩⟩, fun j v hj => by simpa using hj⟩
  obtain ⟨ad', e', hlt, _⟩ := hS.cells h0
  cases e.symm.trans e'
  have := Option.some.inj e2
  have e3 : w.heap.size = ad.block := this
  omega
end Go.Wag
namespace Go.Proofs.Ytagageidiebogaa
open Go.RowKit Go.Wag
set_option linter.unusedVariables false
set_option linter.unusedSimpArgs false
set_option maxRecDepth 20000
set_option maxHeartbeats 8000000 in
theorem mCheck_any {F : Nat → Prop} (b : Int) (xs : List Xp) (A : Option Addr) (n c : Nat) (w : World) (h : Rs extE F w A n c xs) (hla : ∀ x ∈ xs, x.la ≤ 9223372036854775807) (hn : n ≤ 1000000000) :
    Calls Try.prog 19 #[.int .i64 b, .slice A n c] w fun e w' => e = .returned (.bool (mapB b xs)) ∧ Below w.heap.size w w' := by
  have HN : Hid (xs.length = n) := h.len
  have hcap := h.cap
  have hbig := h.big
  by_cases hb : 1 ≤ b ∧ b ≤ 64
  · have hM : mapB b xs = mchain none 0 xs b := by unfold mapB; rw [decide_eq_true hb]; rfl
    rw [hM]
    clear hM
    obtain ⟨R, hR⟩ : ∃ R, Hid (mchain none 0 xs b = R) := ⟨_, rfl⟩
    rw [hR.out]
    have hmay := mmay_any b w
    rw [decide_eq_true hb] at hmay
    go_enter Try.func19, Try.ntmps19
    go_wp2_with fail
    refine hmay.mono ?_
    clear hmay
    rintro e w' ⟨rfl, rfl⟩
    go_wp2_with fail
    go_loopg [5, 13] n (fun g o i wr => ∃ (k : Nat) (v : Int) (p : Option Xp), k + g = n ∧ o = .int .i64 v ∧ i = .int .i64 (k : Int) ∧ Hid (0 ≤ v ∧ v ≤ 64) ∧ Hid (mchain p v (xs.drop k) b = R) ∧ Hid (∀ j : Nat, k = j + 1 → ∃ y, xs[j]? = some y ∧ p = some y) ∧ Hid (k = 0 → p = none) ∧ Below w.heap.size w wr)
    case atStart => exact ⟨0, 0, none, by omega, rfl, rfl, ⟨by omega, by omega⟩, hR, fun j hj => by omega, fun _ => rfl, Below.refl _ _⟩
    case round =>
      obtain ⟨k, v, p, hk, rfl, rfl, hvb, hv, hp, hp0, bb⟩ := hrel
      clear hR
      by_cases hlt : (k : Int) < (n : Int)
      · obtain ⟨g, rfl⟩ : ∃ g, gk = g + 1 := ⟨gk - 1, by omega⟩
        obtain ⟨gb, o, x, Ai, ci, rfl, _, hg, hz, c0', c1', c2', c3', c4', hS, _⟩ := h.ext_at (show k < n by omega)
        have y0 := (bb.cell hg).trans c0'
        have y1 := (bb.cell hg).trans c1'
        have y2 := (bb.cell hg).trans c2'
        have y3 := (bb.cell hg).trans c3'
        have y4 := (bb.cell hg).trans c4'
        have hxla := hla x (List.mem_iff_getElem?.2 ⟨k, hz⟩)
        have V := Blk.new wr #[.int .i64 x.la, .int .i64 x.n, .int .i64 x.k, .int .i64 x.g, .slice Ai x.l.length ci] 41
        have a1 := (Below.refl wr.heap.size wr).alloc (Nat.le_refl _) (.cells #[.int .i64 x.la, .int .i64 x.n, .int .i64 x.k, .int .i64 x.g, .slice Ai x.l.length ci] 41)
        replace bb := bb.trans (a1.mono bb.size)
        clear a1
        have hC := eCheck_any x.la x.n x.k x.g Ai x.l.length ci (wr.alloc (.cells #[.int .i64 x.la, .int .i64 x.n, .int .i64 x.k, .int .i64 x.g, .slice Ai x.l.length ci] 41)) hxla
        cases r1 : xchk x.la x.n x.k x.g x.l.length
        · rw [r1] at hC
          have hr := Lib.hid (hv.out.symm.trans (mchain_no1 hz (.inl r1)))
          go_wp2_with fail
          refine hC.mono ?_
          generalize wr.alloc (.cells #[.int .i64 x.la, .int .i64 x.n, .int .i64 x.k, .int .i64 x.g, .slice Ai x.l.length ci] 41) = w2 at *
          clear hC
          rintro e w3 ⟨rfl, b3⟩
          replace bb := bb.trans (b3.mono bb.size)
          clear b3 y0 y1 y2 y3 y4
          go_wp2
          go_ret
          exact ⟨by rw [hr.out]; rfl, bb⟩
        rw [r1] at hC
        by_cases hxv : ¬ x.la = v
        · have hr := Lib.hid (hv.out.symm.trans (mchain_no1 hz (.inr hxv)))
          clear r1
          go_wp2_with fail
          refine hC.mono ?_
          generalize wr.alloc (.cells #[.int .i64 x.la, .int .i64 x.n, .int .i64 x.k, .int .i64 x.g, .slice Ai x.l.length ci] 41) = w2 at *
          clear hC
          rintro e w3 ⟨rfl, b3⟩
          replace V := V.under b3
          replace bb := bb.trans (b3.mono bb.size)
          clear b3 y0 y1 y2 y3 y4
          obtain ⟨v0, v1, v2, v3, v4, _⟩ := V.five
          go_wp2
          go_ret
          exact ⟨by rw [hr.out]; rfl, bb⟩
        replace hxv := Lib.hid (Classical.not_not.1 hxv)
        have ha := xchk_all r1
        have hw : wrap64 (v + x.n) = v + x.n := by have := hxv.out; unfold wrap64; omega
        have hs64 : 0 ≤ v + x.n ∧ v + x.n ≤ 64 := by have := hxv.out; omega
        obtain ⟨s, hs⟩ : ∃ s, v + x.n = s := ⟨_, rfl⟩
        rw [hs] at hs64
        replace hw := hw.trans hs
        replace hs64 := Lib.hid hs64
        replace hs := Lib.hid hs
        clear ha
        by_cases hk0 : k = 0
        · have hst := hv.out.symm.trans (mchain_yes hz r1 hxv.out (fun y hy => by rw [hp0.out hk0] at hy; cases hy))
          rw [hs.out] at hst
          replace hst := Lib.hid hst.symm
          replace r1 := Lib.hid r1
          obtain rfl := hk0
          simp only [Nat.zero_mul, Nat.add_zero] at y0 y1 y2 y3 y4
          go_wp2_with fail
          refine hC.mono ?_
          generalize wr.alloc (.cells #[.int .i64 x.la, .int .i64 x.n, .int .i64 x.k, .int .i64 x.g, .slice Ai x.l.length ci] 41) = w2 at *
          clear hC
          rintro e w3 ⟨rfl, b3⟩
          replace V := V.under b3
          replace bb := bb.trans (b3.mono bb.size)
          clear b3 y0 y1 y2 y3 y4
          obtain ⟨v0, v1, v2, v3, v4, _⟩ := V.five
          rw [hxv.out] at v0
          go_wp2_with fail
          refine wp_region_held_drew (S := fun w' => Below w3.heap.size w3 w') (by kernel_rfl) (Below.refl _ _).drew (fun hHeld => ?_)
          try dsimp only at hHeld
          have hdr := (Below.refl w3.heap.size w3).drew
          generalize w3.drew = wd at *
          replace bb := bb.trans (hdr.mono bb.size)
          replace V := V.under hdr
          try simp only [Act.put, List.setIfInBounds_toArray, List.set_cons_zero, List.set_cons_succ]
          refine wpAnyH_take (i := 0) (v := ?_) (by simp only [List.getElem?_toArray, List.getElem?_cons_zero]; rfl) (by kernel_rfl) (by kernel_rfl) (by kernel_rfl) (by intro _ _ _ h; exact h) (Or.inl ⟨by rfl, ?_⟩) hHeld ?_
          rotate_left 1
          · intro wq hSw
            try dsimp only at hSw
            go_simp
            try (with_reducible rfl)
          try simp only [Act.put, List.setIfInBounds_toArray, List.set_cons_zero, List.set_cons_succ]
          refine wpAnyH_take (i := 1) (v := ?_) (by simp only [List.getElem?_toArray, List.getElem?_cons_succ, List.getElem?_cons_zero]; rfl) (by kernel_rfl) (by kernel_rfl) (by kernel_rfl) (by intro _ _ _ h; exact h) (Or.inl ⟨by rfl, ?_⟩) hHeld ?_
          rotate_left 1
          · intro wq hSw
            try dsimp only at hSw
            go_simp
            try (with_reducible rfl)
          try simp only [Act.put, List.setIfInBounds_toArray, List.set_cons_zero, List.set_cons_succ]
          refine wpAnyH_take (i := 2) (v := ?_) (by simp only [List.getElem?_toArray, List.getElem?_cons_succ, List.getElem?_cons_zero]; rfl) (by kernel_rfl) (by kernel_rfl) (by kernel_rfl) (by intro _ _ _ h; exact h) (Or.inl ⟨by rfl, ?_⟩) hHeld ?_
          rotate_left 1
          · intro wq hSw
            try dsimp only at hSw
            go_simp
            try (with_reducible rfl)
          try simp only [Act.put, List.setIfInBounds_toArray, List.set_cons_zero, List.set_cons_succ]
          refine wpAnyH_take (i := 3) (v := undef) (by simp only [List.getElem?_toArray, List.getElem?_cons_succ, List.getElem?_cons_zero]; rfl) (by kernel_rfl) (by kernel_rfl) (by kernel_rfl) (by intro _ _ _ h; exact h) (Or.inr ⟨by rfl, rfl⟩) hHeld ?_
          try simp only [Act.put, List.setIfInBounds_toArray, List.set_cons_zero, List.set_cons_succ]
          refine wpAnyH_take (i := 4) (v := undef) (by simp only [List.getElem?_toArray, List.getElem?_cons_succ, List.getElem?_cons_zero]; rfl) (by kernel_rfl) (by kernel_rfl) (by kernel_rfl) (by intro _ _ _ h; exact h) (Or.inr ⟨by rfl, rfl⟩) hHeld ?_
          try simp only [Act.put, List.setIfInBounds_toArray, List.set_cons_zero, List.set_cons_succ]
          refine wpAnyH_take (i := 5) (v := undef) (by simp only [List.getElem?_toArray, List.getElem?_cons_succ, List.getElem?_cons_zero]; rfl) (by kernel_rfl) (by kernel_rfl) (by kernel_rfl) (by intro _ _ _ h; exact h) (Or.inr ⟨by rfl, rfl⟩) hHeld ?_
          try simp only [Act.put, List.setIfInBounds_toArray, List.set_cons_zero, List.set_cons_succ]
          refine wpAnyH_take (i := 6) (v := undef) (by simp only [List.getElem?_toArray, List.getElem?_cons_succ, List.getElem?_cons_zero]; rfl) (by kernel_rfl) (by kernel_rfl) (by kernel_rfl) (by intro _ _ _ h; exact h) (Or.inr ⟨by rfl, rfl⟩) hHeld ?_
          try simp only [Act.put, List.setIfInBounds_toArray, List.set_cons_zero, List.set_cons_succ]
          refine wpAnyH_take (i := 7) (v := undef) (by simp only [List.getElem?_toArray, List.getElem?_cons_succ, List.getElem?_cons_zero]; rfl) (by kernel_rfl) (by kernel_rfl) (by kernel_rfl) (by intro _ _ _ h; exact h) (Or.inr ⟨by rfl, rfl⟩) hHeld ?_
          try simp only [Act.put, List.setIfInBounds_toArray, List.set_cons_zero, List.set_cons_succ]
          refine wpAnyH_take (i := 8) (v := undef) (by simp only [List.getElem?_toArray, List.getElem?_cons_succ, List.getElem?_cons_zero]; rfl) (by kernel_rfl) (by kernel_rfl) (by kernel_rfl) (by intro _ _ _ h; exact h) (Or.inr ⟨by rfl, rfl⟩) hHeld ?_
          try simp only [Act.put, List.setIfInBounds_toArray, List.set_cons_zero, List.set_cons_succ]
          refine wpAnyH_take (i := 9) (v := undef) (by simp only [List.getElem?_toArray, List.getElem?_cons_succ, List.getElem?_cons_zero]; rfl) (by kernel_rfl) (by kernel_rfl) (by kernel_rfl) (by intro _ _ _ h; exact h) (Or.inr ⟨by rfl, rfl⟩) hHeld ?_
          try simp only [Act.put, List.setIfInBounds_toArray, List.set_cons_zero, List.set_cons_succ]
          refine wpAnyH_take (i := 10) (v := ?_) (by simp only [List.getElem?_toArray, List.getElem?_cons_succ, List.getElem?_cons_zero]; rfl) (by kernel_rfl) (by kernel_rfl) (by kernel_rfl) (by intro _ _ _ h; exact h) (Or.inl ⟨by rfl, ?_⟩) hHeld ?_
          rotate_left 1
          · intro wq hSw
            try dsimp only at hSw
            go_simp
            try (with_reducible rfl)
          try simp only [Act.put, List.setIfInBounds_toArray, List.set_cons_zero, List.set_cons_succ]
          refine wpAnyH_done (by kernel_rfl) ?_ _
          have hnx : ∀ j : Nat, 0 + 1 = j + 1 → ∃ y, xs[j]? = some y ∧ some x = some y := fun j hj => ⟨x, by (obtain rfl : j = 0 := by omega); exact hz, rfl⟩
          replace hnx := Lib.hid hnx
          obtain ⟨q0, q1, q2, q3, q4, _⟩ := V.five
          go_wp2
          go_roundg g
          case measure => omega
          case rel => exact ⟨0 + 1, s, some x, by omega, by rw [hw], by first | rfl | (simp; done) | (simp; exact wrap64_small (by omega) (by omega)), hs64, hst, hnx, fun h0 => by omega, bb⟩
        · obtain ⟨j, hj⟩ : ∃ j, k = j + 1 := ⟨k - 1, by omega⟩
          obtain ⟨y, hy, hpy⟩ := hp.out j hj
          obtain ⟨gb2, o2, y2', Aj, cj, hA2, _, hg2, hz2, d0', d1', d2', d3', d4', hSy, _⟩ := h.ext_at (show j < n by omega)
          obtain rfl : y2' = y := Option.some.inj (hz2.symm.trans hy)
          obtain ⟨rfl, rfl⟩ : gb2 = gb ∧ o2 = o := by
            have := Option.some.inj hA2
            exact ⟨(congrArg Addr.block this).symm, (congrArg Addr.off this).symm⟩
          clear hA2 hg2
          have hij : wrap64 ((k : Int) - 1) = (j : Int) := by unfold wrap64; omega
          have hij2 : IntKind.i64.wrap ((k : Int) - 1) = (j : Int) := (IntWalk.i64_left _).trans hij
          have hjb : (0 : Int) ≤ (j : Int) ∧ (j : Int) < (n : Int) := by omega
          replace hj := Lib.hid hj
          have hyla := hla y2' (List.mem_iff_getElem?.2 ⟨j, hy⟩)
          have hJ := fun W => eJoins_any y2'.la y2'.n y2'.k y2'.g Aj y2'.l.length cj x.la x.n x.k x.g Ai x.l.length ci W hyla hxla
          rw [xjF_eq] at hJ
          have hJt := hJ
          clear hJ
          replace r1 := Lib.hid r1
          go_wp2_with fail
          refine hC.mono ?_
          generalize wr.alloc (.cells #[.int .i64 x.la, .int .i64 x.n, .int .i64 x.k, .int .i64 x.g, .slice Ai x.l.length ci] 41) = w2 at *
          clear hC
          rintro e w3 ⟨rfl, b3⟩
          replace V := V.under b3
          replace bb := bb.trans (b3.mono bb.size)
          clear b3 y0 y1 y2 y3 y4
          obtain ⟨v0, v1, v2, v3, v4, _⟩ := V.five
          rw [hxv.out] at v0
          have hkp : (k : Int) > 0 := by omega
          go_wp2_with fail
          refine wp_region_held_drew (S := fun w' => Below w.heap.size w w' ∧ Blk w' wr.heap.size #[.int .i64 x.la, .int .i64 x.n, .int .i64 x.k, .int .i64 x.g, .slice Ai x.l.length ci] 41) (by kernel_rfl) ⟨bb.drew, V.drew⟩ (fun hHeld => ?_)
          try dsimp only at hHeld
          generalize w3.drew = wd at *
          try simp only [Act.put, List.setIfInBounds_toArray, List.set_cons_zero, List.set_cons_succ]
          refine wpAnyH_take (i := 0) (v := ?_) (by simp only [List.getElem?_toArray, List.getElem?_cons_zero]; rfl) (by kernel_rfl) (by kernel_rfl) (by kernel_rfl) (by intro _ _ _ h; exact h) (Or.inl ⟨by rfl, ?_⟩) hHeld ?_
          rotate_left 1
          · intro wq hSw
            try dsimp only at hSw
            go_simp
            try (with_reducible rfl)
          try simp only [Act.put, List.setIfInBounds_toArray, List.set_cons_zero, List.set_cons_succ]
          refine wpAnyH_take (i := 1) (v := (.bool true)) (by simp only [List.getElem?_toArray, List.getElem?_cons_succ, List.getElem?_cons_zero]; rfl) (by kernel_rfl) (by kernel_rfl) (by kernel_rfl) (by intro _ _ _ h; exact h) (Or.inl ⟨by rfl, ?_⟩) hHeld ?_
          · intro wq hSw
            try dsimp only at hSw
            go_simp
            omega
          try simp only [Act.put, List.setIfInBounds_toArray, List.set_cons_zero, List.set_cons_succ]
          refine wpAnyH_take (i := 2) (v := ?_) (by simp only [List.getElem?_toArray, List.getElem?_cons_succ, List.getElem?_cons_zero]; rfl) (by kernel_rfl) (by kernel_rfl) (by kernel_rfl) (by intro _ _ _ h; exact h) (Or.inl ⟨by rfl, ?_⟩) hHeld ?_
          rotate_left 1
          · intro wq hSw
            try dsimp only at hSw
            go_simp
            try (with_reducible rfl)
          try simp only [Act.put, List.setIfInBounds_toArray, List.set_cons_zero, List.set_cons_succ]
          refine wpAnyH_take (i := 3) (v := ?_) (by simp only [List.getElem?_toArray, List.getElem?_cons_succ, List.getElem?_cons_zero]; rfl) (by kernel_rfl) (by kernel_rfl) (by kernel_rfl) (by intro _ _ _ h; exact h) (Or.inl ⟨by rfl, ?_⟩) hHeld ?_
          rotate_left 1
          · intro wq hSw
            try dsimp only at hSw
            go_simp
            try (with_reducible rfl)
          try simp only [Act.put, List.setIfInBounds_toArray, List.set_cons_zero, List.set_cons_succ]
          refine wpAnyH_take (i := 4) (v := ?_) (by simp only [List.getElem?_toArray, List.getElem?_cons_succ, List.getElem?_cons_zero]; rfl) (by kernel_rfl) (by kernel_rfl) (by kernel_rfl) (by intro _ _ _ h; exact h) (Or.inl ⟨by rfl, ?_⟩) hHeld ?_
          rotate_left 1
          · intro wq hSw
            try dsimp only at hSw
            go_simp
            try (with_reducible rfl)
          try simp only [Act.put, List.setIfInBounds_toArray, List.set_cons_zero, List.set_cons_succ]
          refine wpAnyH_take (i := 5) (v := ?_) (by simp only [List.getElem?_toArray, List.getElem?_cons_succ, List.getElem?_cons_zero]; rfl) (by kernel_rfl) (by kernel_rfl) (by kernel_rfl) (by intro _ _ _ h; exact h) (Or.inl ⟨by rfl, ?_⟩) hHeld ?_
          rotate_left 1
          · intro wq hSw
            try dsimp only at hSw
            go_simp
            try (with_reducible rfl)
          try simp only [Act.put, List.setIfInBounds_toArray, List.set_cons_zero, List.set_cons_succ]
          refine wpAnyH_take (i := 6) (v := ?_) (by simp only [List.getElem?_toArray, List.getElem?_cons_succ, List.getElem?_cons_zero]; rfl) (by kernel_rfl) (by kernel_rfl) (by kernel_rfl) (by intro _ _ _ h; exact h) (Or.inl ⟨by rfl, ?_⟩) hHeld ?_
          rotate_left 1
          · intro wq hSw
            try dsimp only at hSw
            go_simp
            try (with_reducible rfl)
          try simp only [Act.put, List.setIfInBounds_toArray, List.set_cons_zero, List.set_cons_succ]
          refine wpAnyH_take (i := 7) (v := ?_) (by simp only [List.getElem?_toArray, List.getElem?_cons_succ, List.getElem?_cons_zero]; rfl) (by kernel_rfl) (by kernel_rfl) (by kernel_rfl) (by intro _ _ _ h; exact h) (Or.inl ⟨by rfl, ?_⟩) hHeld ?_
          rotate_left 1
          · intro wq hSw
            try dsimp only at hSw
            have q0 := (hSw.1.cell hg).trans d0'
            have q1 := (hSw.1.cell hg).trans d1'
            have q2 := (hSw.1.cell hg).trans d2'
            have q3 := (hSw.1.cell hg).trans d3'
            have q4 := (hSw.1.cell hg).trans d4'
            go_simp
            try (with_reducible rfl)
          try simp only [Act.put, List.setIfInBounds_toArray, List.set_cons_zero, List.set_cons_succ]
          refine wpAnyH_take (i := 8) (v := ?_) (by simp only [List.getElem?_toArray, List.getElem?_cons_succ, List.getElem?_cons_zero]; rfl) (by kernel_rfl) (by kernel_rfl) (by kernel_rfl) (by intro _ _ _ h; exact h) (Or.inl ⟨by rfl, ?_⟩) hHeld ?_
          rotate_left 1
          · intro wq hSw
            try dsimp only at hSw
            obtain ⟨q0, q1, q2, q3, q4, _⟩ := hSw.2.five
            go_simp
            try (with_reducible rfl)
          try simp only [Act.put, List.setIfInBounds_toArray, List.set_cons_zero, List.set_cons_succ]
          refine wpAnyH_ready (rs := [9]) (by kernel_rfl) (by simp) ?_
          refine AllReadyH.cons (by simp only [List.getElem?_toArray, List.getElem?_cons_succ, List.getElem?_cons_zero]; rfl) (fun K hK => ?_) AllReadyH.nil
          go_simp
          refine (hJt _).mono ?_
          rintro e w5 ⟨rfl, b5⟩
          have bd5 := hHeld.1.trans (b5.mono hHeld.1.size)
          have V5 := hHeld.2.under b5
          go_wp2_with fail
          refine hK.out _ _ (⟨bd5, V5⟩) (fun hHeld => ?_)
          clear hK K
          try dsimp only at hHeld
          try simp only [Act.put, List.setIfInBounds_toArray, List.set_cons_zero, List.set_cons_succ]
          refine wpAnyH_take (i := 10) (v := ?_) (by simp only [List.getElem?_toArray, List.getElem?_cons_succ, List.getElem?_cons_zero]; rfl) (by kernel_rfl) (by kernel_rfl) (by kernel_rfl) (by intro _ _ _ h; exact h) (Or.inl ⟨by rfl, ?_⟩) hHeld ?_
          rotate_left 1
          · intro wq hSw
            try dsimp only at hSw
            go_simp
            try (with_reducible rfl)
          try simp only [Act.put, List.setIfInBounds_toArray, List.set_cons_zero, List.set_cons_succ]
          refine wpAnyH_done (by kernel_rfl) ?_ _
          clear bb V
          obtain ⟨bb, V⟩ := hHeld
          cases hjj : xjoins y2' x
          · have hst := hv.out.symm.trans (mchain_yes hz r1.out hxv.out (fun y hy => by rw [hpy] at hy; cases hy; exact hjj))
            rw [hs.out] at hst
            replace hst := Lib.hid hst.symm
            try simp only [hjj]
            clear hpy hp hp0
            have hnx : ∀ j : Nat, k + 1 = j + 1 → ∃ y, xs[j]? = some y ∧ some x = some y := fun j hj => ⟨x, by (obtain rfl : j = k := by omega); exact hz, rfl⟩
            replace hnx := Lib.hid hnx
            obtain ⟨q0, q1, q2, q3, q4, _⟩ := V.five
            go_wp2
            go_roundg g
            case measure => omega
            case rel => exact ⟨k + 1, s, some x, by omega, by rw [hw], by first | rfl | (simp; done) | (simp; exact wrap64_small (by omega) (by omega)), hs64, hst, hnx, fun h0 => by omega, bb⟩
          · have hr := Lib.hid (hv.out.symm.trans (mchain_no2 hz hpy hjj))
            try simp only [hjj]
            clear hpy hp hp0
            go_wp2
            go_ret
            exact ⟨by rw [hr.out]; rfl, bb⟩
      · have hr := hv.out
        rw [List.drop_of_length_le (by have := HN.out; omega), mchain_end] at hr
        have : (decide (v = b)) = R := hr
        go_wp2
        go_ret
        exact ⟨by rw [← this]; congr 2, bb⟩
  · have hM : mapB b xs = false := by unfold mapB; rw [decide_eq_false hb]; rfl
    rw [hM]
    have hmay := mmay_any b w
    rw [decide_eq_false hb] at hmay
    go_enter Try.func19, Try.ntmps19
    go_wp2_with fail
    refine hmay.mono ?_
    rintro e w' ⟨rfl, rfl⟩
    go_wp2
    go_ret
    exact ⟨rfl, Below.refl _ _⟩
end Go.Proofs.Ytagageidiebogaa
