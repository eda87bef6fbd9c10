/-
  Contracts of the document's Check, Many, Range and Since of maps (written by gen_emref.py).
-/
import Derived.Test.YtefodkkkbjgbiaaEm3
import Derived.Test.YtefodkkkbjgbiaaRef7e
import Derived.Test.YtefodkkkbjgbiaaRef7a
namespace Go.Wag
theorem msince_no {xs ys : List Xp} {k : Nat} {x : Xp} {g : Int} (hz : xs[k]? = some x) (hys : msince (xs.take k) g = ys) (hc : ¬ g < x.g) : msince (xs.take (k + 1)) g = ys := by
  rw [take_one hz, msince, List.filter_append]
  simp [hc]
  exact hys
theorem msince_yes {xs ys : List Xp} {k : Nat} {x : Xp} {g : Int} (hz : xs[k]? = some x) (hys : msince (xs.take k) g = ys) (hc : g < x.g) : msince (xs.take (k + 1)) g = ys ++ [x] := by
  rw [take_one hz, msince, List.filter_append]
  simp [hc]
  exact hys
end Go.Wag
namespace Go.Proofs.Ytefodkkkbjgbiaa
open Go.RowKit Go.Wag
set_option linter.unusedVariables false
set_option linter.unusedSimpArgs false
set_option maxRecDepth 20000
/-- Extents and a number, that the document answers. -/
def RErr (w : World) (ys : List Xp) (er : Int) (e : Ending) (w' : World) : Prop := ∃ A n c, Hid (ys.length = n) ∧ e = .returned (.tuple #[.slice A n c, .int .i64 er]) ∧ Rs extE (fun _ => True) w' A n c ys ∧ Below w.heap.size w w'
theorem RErr.nil {w w' : World} (er : Int) (hb : Below w.heap.size w w') : RErr w [] er (.returned (.tuple #[.slice none 0 0, .int .i64 er])) w' := ⟨none, 0, 0, rfl, rfl, Rs.nil _ _ _, hb⟩
theorem fCut_okr (la n k g : Int) (A : Option Addr) (m c : Nat) (l : List UInt8) (a q : Int) (w : World) (h : Sl w A m c (l.map v8)) {y : Xp} (hr : xcut ⟨la, n, k, g, l⟩ a q = some y) : Calls Try.prog 48 #[.agg #[.int .i64 la, .int .i64 n, .int .i64 k, .int .i64 g, .slice A m c], .int .i64 a, .int .i64 q] w (EQ (.bool true) w y) := EPost.eq (fCut_any la n k g A m c l a q w h) (by rw [hr]; rfl) (by rw [hr]; rfl)
theorem fCut_nor (la n k g : Int) (A : Option Addr) (m c : Nat) (l : List UInt8) (a q : Int) (w : World) (h : Sl w A m c (l.map v8)) (hr : xcut ⟨la, n, k, g, l⟩ a q = none) : Calls Try.prog 48 #[.agg #[.int .i64 la, .int .i64 n, .int .i64 k, .int .i64 g, .slice A m c], .int .i64 a, .int .i64 q] w (EQ (.bool false) w x0) := EPost.eq (fCut_any la n k g A m c l a q w h) (by rw [hr]; rfl) (by rw [hr]; rfl)
set_option maxHeartbeats 4000000 in
theorem rmMany_any {F : Nat → Prop} (xs : List Xp) (A : Option Addr) (n c : Nat) (kd : Int) (w : World) (h : Rs extE F w A n c xs) (hn : n ≤ 1000000000) :
    Calls Try.prog 30 #[.slice A n c, .int .i64 kd] w fun e w' => e = .returned (.int .i64 (mmany xs kd)) ∧ Below w.heap.size w w' := by
  have HN : Hid (xs.length = n) := h.len
  have hcap := h.cap
  have hbig := h.big
  go_enter Try.func30, Try.ntmps30
  go_wp2_with fail
  go_loopg [5, 6] n (fun g o i wr => ∃ (k : Nat) (v : Int), k + g = n ∧ o = .int .i64 v ∧ i = .int .i64 (k : Int) ∧ Hid (mmany (xs.take k) kd = v) ∧ Below w.heap.size w wr)
  case atStart => exact ⟨0, 0, by omega, rfl, rfl, rfl, Below.refl _ _⟩
  case round =>
    obtain ⟨k, v, hk, rfl, rfl, hv, bb⟩ := hrel
    by_cases hlt : (k : Int) < (n : Int)
    · have hvb := mmany_bound xs k kd (n := n) (by omega)
      rw [hv.out] at hvb
      obtain ⟨g, rfl⟩ : ∃ g, gk = g + 1 := ⟨gk - 1, by omega⟩
      obtain ⟨gb, o, x, Ai, ci, rfl, hFg, hg, hz, c0', c1', c2', c3', c4', hS, hA⟩ := h.ext_at (show k < n by omega)
      have y0 := (bb.cell hg).trans c0'
      have y1 := (bb.cell hg).trans c1'
      have y2 := (bb.cell hg).trans c2'
      have y3 := (bb.cell hg).trans c3'
      have y4 := (bb.cell hg).trans c4'
      have hC := fCheck_any x.la x.n x.k x.g Ai x.l.length ci wr
      by_cases hkk : xchk x.la x.n x.k x.g x.l.length = true ∧ x.k = kd
      · obtain ⟨r1, hkd⟩ := hkk
        rw [r1] at hC
        have hst := Lib.hid (mmany_step hz hv.out (u := x.n) (if_pos ⟨r1, hkd⟩))
        have ha := xchk_all r1
        have hw : wrap64 (v + x.n) = v + x.n := by unfold wrap64; omega
        obtain ⟨s, hs⟩ : ∃ s, v + x.n = s := ⟨_, rfl⟩
        rw [hs] at hst
        replace hw := hw.trans hs
        clear hvb ha r1
        replace hs := Lib.hid hs
        replace hkd := Lib.hid hkd
        go_wp2_with fail
        refine hC.mono ?_
        clear hC
        rintro e w3 ⟨rfl, b3⟩
        replace bb := bb.trans (b3.mono bb.size)
        clear b3 y0 y1 y2 y3 y4
        have y0 := (bb.cell hg).trans c0'
        have y1 := (bb.cell hg).trans c1'
        have y2 := (bb.cell hg).trans c2'
        have y3 := (bb.cell hg).trans c3'
        have y4 := (bb.cell hg).trans c4'
        rw [hkd.out] at y2
        go_wp2
        go_roundg g
        case measure => omega
        case rel => exact ⟨k + 1, s, by omega, by rw [hw], by first | rfl | (simp; done) | (simp; exact wrap64_small (by omega) (by omega)), hst, bb⟩
      · have hst := Lib.hid (mmany_step hz hv.out (u := 0) (if_neg hkk))
        rw [Int.add_zero] at hst
        cases r1 : xchk x.la x.n x.k x.g x.l.length
        · rw [r1] at hC
          clear hvb hkk
          go_wp2_with fail
          refine hC.mono ?_
          clear hC
          rintro e w3 ⟨rfl, b3⟩
          replace bb := bb.trans (b3.mono bb.size)
          clear b3 y0 y1 y2 y3 y4
          have y0 := (bb.cell hg).trans c0'
          have y1 := (bb.cell hg).trans c1'
          have y2 := (bb.cell hg).trans c2'
          have y3 := (bb.cell hg).trans c3'
          have y4 := (bb.cell hg).trans c4'
          go_wp2
          go_roundg g
          case measure => omega
          case rel => exact ⟨k + 1, v, by omega, rfl, by first | rfl | (simp; done) | (simp; exact wrap64_small (by omega) (by omega)), hst, bb⟩
        · rw [r1] at hC
          have hkd : ¬ x.k = kd := fun e => hkk ⟨r1, e⟩
          clear hvb hkk
          go_wp2_with fail
          refine hC.mono ?_
          clear hC
          rintro e w3 ⟨rfl, b3⟩
          replace bb := bb.trans (b3.mono bb.size)
          clear b3 y0 y1 y2 y3 y4
          have y0 := (bb.cell hg).trans c0'
          have y1 := (bb.cell hg).trans c1'
          have y2 := (bb.cell hg).trans c2'
          have y3 := (bb.cell hg).trans c3'
          have y4 := (bb.cell hg).trans c4'
          go_wp2
          go_roundg g
          case measure => omega
          case rel => exact ⟨k + 1, v, by omega, rfl, by first | rfl | (simp; done) | (simp; exact wrap64_small (by omega) (by omega)), hst, bb⟩
    · obtain rfl : k = n := by omega
      rw [List.take_of_length_le (by have := HN.out; omega)] at hv
      have := hv.out
      subst this
      go_wp2
      go_ret
      exact ⟨rfl, bb⟩
set_option maxHeartbeats 8000000 in
theorem rmCheck_any {F : Nat → Prop} (b : Int) (xs : List Xp) (A : Option Addr) (n c : Nat) (w : World) (h : Rs extE F w A n c xs) (hn : n ≤ 1000000000) :
    Calls Try.prog 47 #[.int .i64 b, .slice A n c] w fun e w' => e = .returned (.bool (mapB b xs)) ∧ Below w.heap.size w w' := by
  have HN : Hid (xs.length = n) := h.len
  have hcap := h.cap
  have hbig := h.big
  by_cases hb : 1 ≤ b ∧ b ≤ 64
  · have hM : mapB b xs = mchain none 0 xs b := by unfold mapB; rw [decide_eq_true hb]; rfl
    rw [hM]
    clear hM
    obtain ⟨R, hR⟩ : ∃ R, Hid (mchain none 0 xs b = R) := ⟨_, rfl⟩
    rw [hR.out]
    obtain ⟨hb1, hb2⟩ := hb
    go_enter Try.func47, Try.ntmps47
    go_wp2_with fail
    go_loopg [5, 6] n (fun g o i wr => ∃ (k : Nat) (v : Int) (p : Option Xp), k + g = n ∧ o = .int .i64 v ∧ i = .int .i64 (k : Int) ∧ Hid (0 ≤ v ∧ v ≤ 64) ∧ Hid (mchain p v (xs.drop k) b = R) ∧ Hid (∀ j : Nat, k = j + 1 → ∃ y, xs[j]? = some y ∧ p = some y) ∧ Hid (k = 0 → p = none) ∧ Below w.heap.size w wr)
    case atStart => exact ⟨0, 0, none, by omega, rfl, rfl, ⟨by omega, by omega⟩, hR, fun j hj => by omega, fun _ => rfl, Below.refl _ _⟩
    case round =>
      obtain ⟨k, v, p, hk, rfl, rfl, hvb, hv, hp, hp0, bb⟩ := hrel
      clear hR
      by_cases hlt : (k : Int) < (n : Int)
      · skip
        obtain ⟨g, rfl⟩ : ∃ g, gk = g + 1 := ⟨gk - 1, by omega⟩
        obtain ⟨gb, o, x, Ai, ci, rfl, hFg, hg, hz, c0', c1', c2', c3', c4', hS, hA⟩ := h.ext_at (show k < n by omega)
        have y0 := (bb.cell hg).trans c0'
        have y1 := (bb.cell hg).trans c1'
        have y2 := (bb.cell hg).trans c2'
        have y3 := (bb.cell hg).trans c3'
        have y4 := (bb.cell hg).trans c4'
        have hC := fCheck_any x.la x.n x.k x.g Ai x.l.length ci wr
        cases r1 : xchk x.la x.n x.k x.g x.l.length
        · rw [r1] at hC
          have hr := Lib.hid (hv.out.symm.trans (mchain_no1 hz (.inl r1)))
          go_wp2_with fail
          refine hC.mono ?_
          clear hC
          rintro e w3 ⟨rfl, b3⟩
          replace bb := bb.trans (b3.mono bb.size)
          clear b3 y0 y1 y2 y3 y4
          have y0 := (bb.cell hg).trans c0'
          have y1 := (bb.cell hg).trans c1'
          have y2 := (bb.cell hg).trans c2'
          have y3 := (bb.cell hg).trans c3'
          have y4 := (bb.cell hg).trans c4'
          go_wp2
          go_ret
          exact ⟨by rw [hr.out]; rfl, bb⟩
        rw [r1] at hC
        by_cases hxv : ¬ x.la = v
        · have hr := Lib.hid (hv.out.symm.trans (mchain_no1 hz (.inr hxv)))
          clear r1
          go_wp2_with fail
          refine hC.mono ?_
          clear hC
          rintro e w3 ⟨rfl, b3⟩
          replace bb := bb.trans (b3.mono bb.size)
          clear b3 y0 y1 y2 y3 y4
          have y0 := (bb.cell hg).trans c0'
          have y1 := (bb.cell hg).trans c1'
          have y2 := (bb.cell hg).trans c2'
          have y3 := (bb.cell hg).trans c3'
          have y4 := (bb.cell hg).trans c4'
          go_wp2
          go_ret
          exact ⟨by rw [hr.out]; rfl, bb⟩
        replace hxv := Lib.hid (Classical.not_not.1 hxv)
        have ha := xchk_all r1
        have hw : wrap64 (v + x.n) = v + x.n := by have := hxv.out; unfold wrap64; omega
        have hs64 : 0 ≤ v + x.n ∧ v + x.n ≤ 64 := by have := hxv.out; omega
        obtain ⟨s, hs⟩ : ∃ s, v + x.n = s := ⟨_, rfl⟩
        rw [hs] at hs64
        replace hw := hw.trans hs
        replace hs64 := Lib.hid hs64
        replace hs := Lib.hid hs
        clear ha
        by_cases hk0 : k = 0
        · have hst := hv.out.symm.trans (mchain_yes hz r1 hxv.out (fun y hy => by rw [hp0.out hk0] at hy; cases hy))
          rw [hs.out] at hst
          replace hst := Lib.hid hst.symm
          replace r1 := Lib.hid r1
          obtain rfl := hk0
          simp only [Nat.zero_mul, Nat.add_zero] at y0 y1 y2 y3 y4 c0' c1' c2' c3' c4'
          go_wp2_with fail
          refine hC.mono ?_
          clear hC
          rintro e w3 ⟨rfl, b3⟩
          replace bb := bb.trans (b3.mono bb.size)
          clear b3 y0 y1 y2 y3 y4
          have y0 := (bb.cell hg).trans c0'
          have y1 := (bb.cell hg).trans c1'
          have y2 := (bb.cell hg).trans c2'
          have y3 := (bb.cell hg).trans c3'
          have y4 := (bb.cell hg).trans c4'
          rw [hxv.out] at y0
          have hnx : ∀ j : Nat, 0 + 1 = j + 1 → ∃ y, xs[j]? = some y ∧ some x = some y := fun j hj => ⟨x, by (obtain rfl : j = 0 := by omega); exact hz, rfl⟩
          replace hnx := Lib.hid hnx
          go_wp2
          go_roundg g
          case measure => omega
          case rel => exact ⟨0 + 1, s, some x, by omega, by rw [hw], by first | rfl | (simp; done) | (simp; exact wrap64_small (by omega) (by omega)), hs64, hst, hnx, fun h0 => by omega, bb⟩
        · obtain ⟨j, hj⟩ : ∃ j, k = j + 1 := ⟨k - 1, by omega⟩
          obtain ⟨y, hy, hpy⟩ := hp.out j hj
          obtain ⟨gb2, o2, y2', Aj, cj, hA2, _, hg2, hz2, d0', d1', d2', d3', d4', hSy, _⟩ := h.ext_at (show j < n by omega)
          obtain rfl : y2' = y := Option.some.inj (hz2.symm.trans hy)
          obtain ⟨rfl, rfl⟩ : gb2 = gb ∧ o2 = o := by
            have := Option.some.inj hA2
            exact ⟨(congrArg Addr.block this).symm, (congrArg Addr.off this).symm⟩
          clear hA2 hg2
          have hij : wrap64 ((k : Int) - 1) = (j : Int) := by unfold wrap64; omega
          have hij2 : IntKind.i64.wrap ((k : Int) - 1) = (j : Int) := (IntWalk.i64_left _).trans hij
          have hjb : (0 : Int) ≤ (j : Int) ∧ (j : Int) < (n : Int) := by omega
          replace hj := Lib.hid hj
          have hJt := fun W => fJoins_any y2'.la y2'.n y2'.k y2'.g Aj y2'.l.length cj x.la x.n x.k x.g Ai x.l.length ci W
          simp only [xjF_eq] at hJt
          replace r1 := Lib.hid r1
          go_wp2_with fail
          refine hC.mono ?_
          clear hC
          rintro e w3 ⟨rfl, b3⟩
          replace bb := bb.trans (b3.mono bb.size)
          clear b3 y0 y1 y2 y3 y4
          have y0 := (bb.cell hg).trans c0'
          have y1 := (bb.cell hg).trans c1'
          have y2 := (bb.cell hg).trans c2'
          have y3 := (bb.cell hg).trans c3'
          have y4 := (bb.cell hg).trans c4'
          rw [hxv.out] at y0
          have hkp : (k : Int) > 0 := by omega
          go_wp2_with fail
          refine wp_region_held_drew (S := fun w' => Below w.heap.size w w') (by kernel_rfl) bb.drew (fun hHeld => ?_)
          try dsimp only at hHeld
          generalize w3.drew = wd at *
          try simp only [Act.put, List.setIfInBounds_toArray, List.set_cons_zero, List.set_cons_succ]
          refine wpAnyH_take (i := 0) (v := ?_) (by simp only [List.getElem?_toArray, List.getElem?_cons_zero]; rfl) (by kernel_rfl) (by kernel_rfl) (by kernel_rfl) (by intro _ _ _ h; exact h) (Or.inl ⟨by rfl, ?_⟩) hHeld ?_
          rotate_left 1
          · intro wq hSw
            try dsimp only at hSw
            go_simp
            try (with_reducible rfl)
          try simp only [Act.put, List.setIfInBounds_toArray, List.set_cons_zero, List.set_cons_succ]
          refine wpAnyH_take (i := 1) (v := ?_) (by simp only [List.getElem?_toArray, List.getElem?_cons_succ, List.getElem?_cons_zero]; rfl) (by kernel_rfl) (by kernel_rfl) (by kernel_rfl) (by intro _ _ _ h; exact h) (Or.inl ⟨by rfl, ?_⟩) hHeld ?_
          rotate_left 1
          · intro wq hSw
            try dsimp only at hSw
            go_simp
            try (with_reducible rfl)
          try simp only [Act.put, List.setIfInBounds_toArray, List.set_cons_zero, List.set_cons_succ]
          refine wpAnyH_take (i := 2) (v := ?_) (by simp only [List.getElem?_toArray, List.getElem?_cons_succ, List.getElem?_cons_zero]; rfl) (by kernel_rfl) (by kernel_rfl) (by kernel_rfl) (by intro _ _ _ h; exact h) (Or.inl ⟨by rfl, ?_⟩) hHeld ?_
          rotate_left 1
          · intro wq hSw
            try dsimp only at hSw
            go_simp
            try (with_reducible rfl)
          try simp only [Act.put, List.setIfInBounds_toArray, List.set_cons_zero, List.set_cons_succ]
          refine wpAnyH_take (i := 3) (v := ?_) (by simp only [List.getElem?_toArray, List.getElem?_cons_succ, List.getElem?_cons_zero]; rfl) (by kernel_rfl) (by kernel_rfl) (by kernel_rfl) (by intro _ _ _ h; exact h) (Or.inl ⟨by rfl, ?_⟩) hHeld ?_
          rotate_left 1
          · intro wq hSw
            try dsimp only at hSw
            go_simp
            try (with_reducible rfl)
          try simp only [Act.put, List.setIfInBounds_toArray, List.set_cons_zero, List.set_cons_succ]
          refine wpAnyH_take (i := 4) (v := ?_) (by simp only [List.getElem?_toArray, List.getElem?_cons_succ, List.getElem?_cons_zero]; rfl) (by kernel_rfl) (by kernel_rfl) (by kernel_rfl) (by intro _ _ _ h; exact h) (Or.inl ⟨by rfl, ?_⟩) hHeld ?_
          rotate_left 1
          · intro wq hSw
            try dsimp only at hSw
            have q0 := (hSw.cell hg).trans d0'
            have q1 := (hSw.cell hg).trans d1'
            have q2 := (hSw.cell hg).trans d2'
            have q3 := (hSw.cell hg).trans d3'
            have q4 := (hSw.cell hg).trans d4'
            go_simp
            try (with_reducible rfl)
          try simp only [Act.put, List.setIfInBounds_toArray, List.set_cons_zero, List.set_cons_succ]
          refine wpAnyH_take (i := 5) (v := ?_) (by simp only [List.getElem?_toArray, List.getElem?_cons_succ, List.getElem?_cons_zero]; rfl) (by kernel_rfl) (by kernel_rfl) (by kernel_rfl) (by intro _ _ _ h; exact h) (Or.inl ⟨by rfl, ?_⟩) hHeld ?_
          rotate_left 1
          · intro wq hSw
            try dsimp only at hSw
            go_simp
            try (with_reducible rfl)
          try simp only [Act.put, List.setIfInBounds_toArray, List.set_cons_zero, List.set_cons_succ]
          refine wpAnyH_take (i := 6) (v := ?_) (by simp only [List.getElem?_toArray, List.getElem?_cons_succ, List.getElem?_cons_zero]; rfl) (by kernel_rfl) (by kernel_rfl) (by kernel_rfl) (by intro _ _ _ h; exact h) (Or.inl ⟨by rfl, ?_⟩) hHeld ?_
          rotate_left 1
          · intro wq hSw
            try dsimp only at hSw
            go_simp
            try (with_reducible rfl)
          try simp only [Act.put, List.setIfInBounds_toArray, List.set_cons_zero, List.set_cons_succ]
          refine wpAnyH_take (i := 7) (v := ?_) (by simp only [List.getElem?_toArray, List.getElem?_cons_succ, List.getElem?_cons_zero]; rfl) (by kernel_rfl) (by kernel_rfl) (by kernel_rfl) (by intro _ _ _ h; exact h) (Or.inl ⟨by rfl, ?_⟩) hHeld ?_
          rotate_left 1
          · intro wq hSw
            try dsimp only at hSw
            go_simp
            try (with_reducible rfl)
          try simp only [Act.put, List.setIfInBounds_toArray, List.set_cons_zero, List.set_cons_succ]
          refine wpAnyH_take (i := 8) (v := ?_) (by simp only [List.getElem?_toArray, List.getElem?_cons_succ, List.getElem?_cons_zero]; rfl) (by kernel_rfl) (by kernel_rfl) (by kernel_rfl) (by intro _ _ _ h; exact h) (Or.inl ⟨by rfl, ?_⟩) hHeld ?_
          rotate_left 1
          · intro wq hSw
            try dsimp only at hSw
            have q0 := (hSw.cell hg).trans c0'
            have q1 := (hSw.cell hg).trans c1'
            have q2 := (hSw.cell hg).trans c2'
            have q3 := (hSw.cell hg).trans c3'
            have q4 := (hSw.cell hg).trans c4'
            go_simp
            try (with_reducible rfl)
          try simp only [Act.put, List.setIfInBounds_toArray, List.set_cons_zero, List.set_cons_succ]
          refine wpAnyH_ready (rs := [9]) (by kernel_rfl) (by simp) ?_
          refine AllReadyH.cons (by simp only [List.getElem?_toArray, List.getElem?_cons_succ, List.getElem?_cons_zero]; rfl) (fun K hK => ?_) AllReadyH.nil
          go_simp
          refine (hJt _).mono ?_
          rintro e w5 ⟨rfl, b5⟩
          have bd5 := hHeld.trans (b5.mono hHeld.size)
          go_wp2_with fail
          refine hK.out _ _ (bd5) (fun hHeld => ?_)
          clear hK K
          try dsimp only at hHeld
          try simp only [Act.put, List.setIfInBounds_toArray, List.set_cons_zero, List.set_cons_succ]
          refine wpAnyH_take (i := 10) (v := ?_) (by simp only [List.getElem?_toArray, List.getElem?_cons_succ, List.getElem?_cons_zero]; rfl) (by kernel_rfl) (by kernel_rfl) (by kernel_rfl) (by intro _ _ _ h; exact h) (Or.inl ⟨by rfl, ?_⟩) hHeld ?_
          rotate_left 1
          · intro wq hSw
            try dsimp only at hSw
            go_simp
            try (with_reducible rfl)
          try simp only [Act.put, List.setIfInBounds_toArray, List.set_cons_zero, List.set_cons_succ]
          refine wpAnyH_done (by kernel_rfl) ?_ _
          clear bb y0 y1 y2 y3 y4
          have bb := hHeld
          have y1 := (bb.cell hg).trans c1'
          cases hjj : xjoins y2' x
          · have hst := hv.out.symm.trans (mchain_yes hz r1.out hxv.out (fun y hy => by rw [hpy] at hy; cases hy; exact hjj))
            rw [hs.out] at hst
            replace hst := Lib.hid hst.symm
            try simp only [hjj]
            clear hpy hp hp0
            have hnx : ∀ j : Nat, k + 1 = j + 1 → ∃ y, xs[j]? = some y ∧ some x = some y := fun j hj => ⟨x, by (obtain rfl : j = k := by omega); exact hz, rfl⟩
            replace hnx := Lib.hid hnx
            go_wp2
            go_roundg g
            case measure => omega
            case rel => exact ⟨k + 1, s, some x, by omega, by rw [hw], by first | rfl | (simp; done) | (simp; exact wrap64_small (by omega) (by omega)), hs64, hst, hnx, fun h0 => by omega, bb⟩
          · have hr := Lib.hid (hv.out.symm.trans (mchain_no2 hz hpy hjj))
            try simp only [hjj]
            clear hpy hp hp0
            go_wp2
            go_ret
            exact ⟨by rw [hr.out]; rfl, bb⟩
      · have hr := hv.out
        rw [List.drop_of_length_le (by have := HN.out; omega), mchain_end] at hr
        have : (decide (v = b)) = R := hr
        go_wp2
        go_ret
        exact ⟨by rw [← this]; congr 2, bb⟩
  · have hM : mapB b xs = false := by unfold mapB; rw [decide_eq_false hb]; rfl
    rw [hM]
    by_cases h1 : b < 1
    · go_enter Try.func47, Try.ntmps47
      go_wp2
      go_ret
      exact ⟨rfl, Below.refl _ _⟩
    · have h2 : b > 64 := by omega
      go_enter Try.func47, Try.ntmps47
      go_wp2
      go_ret
      exact ⟨rfl, Below.refl _ _⟩
set_option maxHeartbeats 4000000 in
theorem rmSince_any (b : Int) (xs : List Xp) (A : Option Addr) (n c : Nat) (gv : Int) (w : World) (h : Rs extE (fun z => z < w.heap.size) w A n c xs) (hn : n ≤ 1000000000) :
    Calls Try.prog 28 #[.int .i64 b, .slice A n c, .int .i64 gv] w (if mapB b xs = false then RErr w [] 80 else RErr w (msince xs gv) 0) := by
  have HN : Hid (xs.length = n) := h.len
  have hcap := h.cap
  have hbig := h.big
  have hC := rmCheck_any b xs A n c w h hn
  obtain ⟨iX, hiX, hzX, hsX, hbX⟩ := iExt
  cases hm : mapB b xs
  · rw [if_pos rfl]
    rw [hm] at hC
    go_enter Try.func28, Try.ntmps28
    go_wp2_with fail
    refine hC.mono ?_
    rintro e w2 ⟨rfl, b2⟩
    go_wp2
    go_ret2
    exact RErr.nil _ b2
  rw [if_neg (by simp)]
  rw [hm] at hC
  go_enter Try.func28, Try.ntmps28
  go_wp2_with fail
  refine hC.mono ?_
  clear hC
  rintro e w2 ⟨rfl, b2⟩
  go_wp2_with fail
  go_loopg [9, 10] n (fun g o i wr => ∃ (k : Nat) (Ar : Option Addr) (nr cr : Nat) (ys : List Xp), k + g = n ∧ o = .slice Ar nr cr ∧ i = .int .i64 (k : Int) ∧ nr ≤ k ∧ Hid (msince (xs.take k) gv = ys) ∧ Rq extE (fun z => z < w.heap.size) w.heap.size 35 wr Ar nr cr ys ∧ Below w.heap.size w wr)
  case atStart => exact ⟨0, none, 0, 0, [], by omega, rfl, rfl, by omega, rfl, Rq.nil _ _ _ _ _, b2⟩
  case round =>
    obtain ⟨k, Ar, nr, cr, ys, hk, rfl, rfl, hnr, hys, R, bb⟩ := hrel
    by_cases hlt : (k : Int) < (n : Int)
    · skip
      obtain ⟨g, rfl⟩ : ∃ g, gk = g + 1 := ⟨gk - 1, by omega⟩
      obtain ⟨gb, o, x, Ai, ci, rfl, hFg, hg, hz, c0', c1', c2', c3', c4', hS, hA⟩ := h.ext_at (show k < n by omega)
      have y0 := (bb.cell hg).trans c0'
      have y1 := (bb.cell hg).trans c1'
      have y2 := (bb.cell hg).trans c2'
      have y3 := (bb.cell hg).trans c3'
      have y4 := (bb.cell hg).trans c4'
      by_cases hc : gv < x.g
      · have hst := Lib.hid (msince_yes hz hys.out hc)
        have hro := R.lt
        have hrd : extE.rd (fun z => z < w.heap.size ∧ (Value.slice Ar nr cr).ownBlock ≠ some z) wr [.int .i64 x.la, .int .i64 x.n, .int .i64 x.k, .int .i64 x.g, .slice Ai x.l.length ci] x :=
          ⟨Ai, ci, rfl, hS.below bb, fun h0 ad e => ⟨hA h0 ad e, fun e2 => by have := (hro _ e2).1; have := hA h0 ad e; omega⟩⟩
        have a1 := (Below.refl wr.heap.size wr).alloc (Nat.le_refl _) (.cells #[.int .i64 x.la, .int .i64 x.n, .int .i64 x.k, .int .i64 x.g, .slice Ai x.l.length ci] 35)
        have Bs := Blk.new wr #[.int .i64 x.la, .int .i64 x.n, .int .i64 x.k, .int .i64 x.g, .slice Ai x.l.length ci] 35
        replace R := R.under a1
        replace hrd := Elt.below hrd a1
        replace bb := bb.trans (a1.mono bb.size)
        have hs4 := bb.size
        obtain ⟨A5, c5, w5, hr, R5, gr, hlies⟩ := R.app (P := Try.prog) (T := 22) (ty := 22) Try.underlying22 hiX hzX hsX hbX rfl hs4 (by omega) (by omega) hrd (one_ext _ _ _ _ _ _ _) Bs
        have hro5 := R.lt
        have bb6 := bb.grown gr hs4 (fun z hz => (hro5 z hz).1)
        clear hro hro5 gr hrd Bs hlies R bb a1
        go_wp2_with (at_builtin; refine wpList_run rfl (.tmp 29) (.tmp 34) 22 rfl rfl rfl hr ?_; intro _)
        go_roundg g
        case measure => omega
        case rel => exact ⟨k + 1, A5, _, c5, _, by omega, rfl, by first | rfl | (simp; done) | (simp; exact wrap64_small (by omega) (by omega)), by omega, hst, R5, bb6⟩
      · have hst := Lib.hid (msince_no hz hys.out hc)
        go_wp2
        go_roundg g
        case measure => omega
        case rel => exact ⟨k + 1, Ar, nr, cr, ys, by omega, rfl, by first | rfl | (simp; done) | (simp; exact wrap64_small (by omega) (by omega)), by omega, hst, R, bb⟩
    · obtain rfl : k = n := by omega
      rw [List.take_of_length_le (by have := HN.out; omega)] at hys
      have := hys.out
      subst this
      have hln := Lib.hid R.len
      go_wp2
      go_ret2
      exact ⟨Ar, nr, cr, hln, rfl, (R.imp (F' := fun _ => True) (fun _ _ _ => trivial)).toRs (fun _ _ _ => trivial), bb⟩
set_option maxHeartbeats 4000000 in
theorem rmRange_any {F : Nat → Prop} (b : Int) (xs : List Xp) (A : Option Addr) (n c : Nat) (lba m : Int) (w : World) (hlb : lba ≤ 9223372036854775807) (h : Rs extE F w A n c xs) (hn : n ≤ 1000000000) :
    Calls Try.prog 26 #[.int .i64 b, .slice A n c, .int .i64 lba, .int .i64 m] w (if mapB b xs = false then RErr w [] 80 else if 0 ≤ lba ∧ 1 ≤ m ∧ m ≤ b - lba then RErr w (mparts xs lba m) 0 else RErr w [] 81) := by
  have HN : Hid (xs.length = n) := h.len
  have hcap := h.cap
  have hbig := h.big
  have hC := rmCheck_any b xs A n c w h hn
  obtain ⟨iX, hiX, hzX, hsX, hbX⟩ := iExt
  cases hm : mapB b xs
  · rw [if_pos rfl]
    rw [hm] at hC
    go_enter Try.func26, Try.ntmps26
    go_wp2_with fail
    refine hC.mono ?_
    rintro e w2 ⟨rfl, b2⟩
    go_wp2
    go_ret2
    exact RErr.nil _ b2
  rw [if_neg (by simp)]
  rw [hm] at hC
  obtain ⟨hb1, hb64, _⟩ := (mapB_iff _ _).1 hm
  replace hm := Lib.hid hm
  by_cases h_lba0 : lba < 0
  · rw [if_neg (by omega)]
    go_enter Try.func26, Try.ntmps26
    go_wp2_with fail
    refine hC.mono ?_
    rintro e w2 ⟨rfl, b2⟩
    go_wp2
    go_ret2
    exact RErr.nil _ b2
  by_cases h_blba : b < lba
  · rw [if_neg (by omega)]
    go_enter Try.func26, Try.ntmps26
    go_wp2_with fail
    refine hC.mono ?_
    rintro e w2 ⟨rfl, b2⟩
    go_wp2
    go_ret2
    exact RErr.nil _ b2
  by_cases h_m1 : m < 1
  · rw [if_neg (by omega)]
    go_enter Try.func26, Try.ntmps26
    go_wp2_with fail
    refine hC.mono ?_
    rintro e w2 ⟨rfl, b2⟩
    go_wp2
    go_ret2
    exact RErr.nil _ b2
  by_cases h2 : b - lba < m
  · rw [if_neg (by omega)]
    go_enter Try.func26, Try.ntmps26
    go_wp2_with fail
    refine hC.mono ?_
    rintro e w2 ⟨rfl, b2⟩
    go_wp2
    go_ret2
    exact RErr.nil _ b2
  rw [if_pos (by omega)]
  go_enter Try.func26, Try.ntmps26
  go_wp2_with fail
  refine hC.mono ?_
  clear hC
  rintro e w2 ⟨rfl, b2⟩
  go_wp2_with fail
  go_loopg [11, 12] n (fun g o i wr => ∃ (k : Nat) (Ar : Option Addr) (nr cr : Nat) (ys : List Xp), k + g = n ∧ o = .slice Ar nr cr ∧ i = .int .i64 (k : Int) ∧ nr ≤ k ∧ Hid (mparts (xs.take k) lba m = ys) ∧ Rq extE (fun z => w.heap.size ≤ z) w.heap.size 35 wr Ar nr cr ys ∧ Below w.heap.size w wr)
  case atStart => exact ⟨0, none, 0, 0, [], by omega, rfl, rfl, by omega, rfl, Rq.nil _ _ _ _ _, b2⟩
  case round =>
    obtain ⟨k, Ar, nr, cr, ys, hk, rfl, rfl, hnr, hys, R, bb⟩ := hrel
    by_cases hlt : (k : Int) < (n : Int)
    · skip
      obtain ⟨g, rfl⟩ : ∃ g, gk = g + 1 := ⟨gk - 1, by omega⟩
      obtain ⟨gb, o, x, Ai, ci, rfl, hFg, hg, hz, c0', c1', c2', c3', c4', hS, hA⟩ := h.ext_at (show k < n by omega)
      have y0 := (bb.cell hg).trans c0'
      have y1 := (bb.cell hg).trans c1'
      have y2 := (bb.cell hg).trans c2'
      have y3 := (bb.cell hg).trans c3'
      have y4 := (bb.cell hg).trans c4'
      cases hc : xcut x lba m with
      | none =>
        have hst := Lib.hid (mparts_no hz hys.out hc)
        have hC := fCut_nor x.la x.n x.k x.g Ai x.l.length ci x.l lba m wr (hS.below bb) hc
        replace hc := Lib.hid hc
        go_wp2_with fail
        refine hC.mono ?_
        clear hC
        rintro e w3 ⟨A4, m4, c4, hm4, rfl, N4, b3⟩
        replace R := (R.below b3).alloc (.cells #[.int .i64 x0.la, .int .i64 x0.n, .int .i64 x0.k, .int .i64 x0.g, .slice A4 m4 c4] 35)
        replace bb := (bb.trans (b3.mono bb.size)).alloc (by have := bb.size; have := b3.size; omega) (.cells #[.int .i64 x0.la, .int .i64 x0.n, .int .i64 x0.k, .int .i64 x0.g, .slice A4 m4 c4] 35)
        clear b3 N4 hm4 y0 y1 y2 y3 y4
        go_wp2
        go_roundg g
        case measure => omega
        case rel => exact ⟨k + 1, Ar, nr, cr, ys, by omega, rfl, by first | rfl | (simp; done) | (simp; exact wrap64_small (by omega) (by omega)), by omega, hst, R, bb⟩
      | some y =>
        have hst := Lib.hid (mparts_yes hz hys.out hc)
        have hC := fCut_okr x.la x.n x.k x.g Ai x.l.length ci x.l lba m wr (hS.below bb) hc
        replace hc := Lib.hid hc
        go_wp2_with fail
        refine hC.mono ?_
        clear hC
        rintro e w3 ⟨A4, m4, c4, hm4, rfl, N4, b3⟩
        have hw2 := bb.size
        have hro := R.lt
        have S4 := Sl.of_own N4
        have hA4 : ∀ ad, A4 = some ad → w.heap.size ≤ ad.block ∧ (Value.slice Ar nr cr).ownBlock ≠ some ad.block := fun ad e => by
          have h1 := N4.fr ad e
          refine ⟨by omega, fun e2 => ?_⟩
          have := (hro _ e2).2
          omega
        have hrd : extE.rd (fun b => w.heap.size ≤ b ∧ (Value.slice Ar nr cr).ownBlock ≠ some b) w3 [.int .i64 y.la, .int .i64 y.n, .int .i64 y.k, .int .i64 y.g, .slice A4 m4 c4] y :=
          ⟨A4, c4, by rw [hm4.out], by rw [← hm4.out]; exact S4, fun _ ad e => hA4 ad e⟩
        replace R := R.below b3
        replace bb := bb.trans (b3.mono bb.size)
        clear b3 N4 S4 hA4 hro hw2 y0 y1 y2 y3 y4
        have V := Blk.new w3 #[.int .i64 y.la, .int .i64 y.n, .int .i64 y.k, .int .i64 y.g, .slice A4 m4 c4] 35
        have a1 := (Below.refl w3.heap.size w3).alloc (Nat.le_refl _) (.cells #[.int .i64 y.la, .int .i64 y.n, .int .i64 y.k, .int .i64 y.g, .slice A4 m4 c4] 35)
        have a2 := a1.alloc a1.size (.cells #[.int .i64 y.la, .int .i64 y.n, .int .i64 y.k, .int .i64 y.g, .slice A4 m4 c4] 35)
        have Bs := Blk.new (w3.alloc (.cells #[.int .i64 y.la, .int .i64 y.n, .int .i64 y.k, .int .i64 y.g, .slice A4 m4 c4] 35)) #[.int .i64 y.la, .int .i64 y.n, .int .i64 y.k, .int .i64 y.g, .slice A4 m4 c4] 35
        simp only [World.size_alloc] at Bs
        replace R := R.under a2
        replace hrd := Elt.below hrd a2
        replace bb := bb.trans (a2.mono bb.size)
        have hs4 := bb.size
        clear a1 a2
        obtain ⟨A5, c5, w5, hr, R5, gr, hlies⟩ := R.app (P := Try.prog) (T := 22) (ty := 22) Try.underlying22 hiX hzX hsX hbX rfl hs4 (by omega) (by omega) hrd (one_ext _ _ _ _ _ _ _) Bs
        have hro := R.lt
        have bb6 := bb.grown gr hs4 (fun x hx => (hro x hx).1)
        clear hro gr hrd Bs hlies R bb
        obtain ⟨v0, v1, v2, v3, v4, _⟩ := V.five
        go_wp2_with (at_builtin; refine wpList_run rfl (.tmp 55) (.tmp 57) 22 rfl rfl rfl hr ?_; intro _)
        go_roundg g
        case measure => omega
        case rel => exact ⟨k + 1, A5, _, c5, _, by omega, rfl, by first | rfl | (simp; done) | (simp; exact wrap64_small (by omega) (by omega)), by omega, hst, R5, bb6⟩
    · obtain rfl : k = n := by omega
      rw [List.take_of_length_le (by have := HN.out; omega)] at hys
      have := hys.out
      subst this
      have hln := Lib.hid R.len
      go_wp2
      go_ret2
      exact ⟨Ar, nr, cr, hln, rfl, (R.imp (F' := fun _ => True) (fun _ _ _ => trivial)).toRs (fun _ _ _ => trivial), bb⟩
end Go.Proofs.Ytefodkkkbjgbiaa
