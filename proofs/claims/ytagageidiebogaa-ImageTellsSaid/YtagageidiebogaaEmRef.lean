/-
  Contracts of the document's Check, Many, Range and Since of maps (written by gen_emref.py).
-/
import Derived.Test.YtagageidiebogaaEm3
import Derived.Test.YtagageidiebogaaRef7e
import Derived.Test.YtagageidiebogaaRef7a
namespace Go.Wag
theorem msince_no {xs ys : List Xp} {k : Nat} {x : Xp} {g : Int} (hz : xs[k]? = some x) (hys : msince (xs.take k) g = ys) (hc : ¬ g < x.g) : msince (xs.take (k + 1)) g = ys := by
  rw [take_one hz, msince, List.filter_append]
  simp [hc]
  exact hys
theorem msince_yes {xs ys : List Xp} {k : Nat} {x : Xp} {g : Int} (hz : xs[k]? = some x) (hys : msince (xs.take k) g = ys) (hc : g < x.g) : msince (xs.take (k + 1)) g = ys ++ [x] := by
  rw [take_one hz, msince, List.filter_append]
  simp [hc]
  exact hys
end Go.Wag
namespace Go.Proofs.Ytagageidiebogaa
open Go.RowKit Go.Wag
set_option linter.unusedVariables false
set_option linter.unusedSimpArgs false
set_option maxRecDepth 20000
/-- Extents and a number, that the document answers. -/
def RErr (w : World) (ys : List Xp) (er : Int) (e : Ending) (w' : World) : Prop := ∃ A n c, Hid (ys.length = n) ∧ e = .returned (.tuple #[.slice A n c, .int .i64 er]) ∧ Rs extE (fun _ => True) w' A n c ys ∧ Below w.heap.size w w'
theorem RErr.nil {w w' : World} (er : Int) (hb : Below w.heap.size w w') : RErr w [] er (.returned (.tuple #[.slice none 0 0, .int .i64 er])) w' := ⟨none, 0, 0, rfl, rfl, Rs.nil _ _ _, hb⟩
set_option maxHeartbeats 8000000 in
theorem rmCheck_any {F : Nat → Prop} (b : Int) (xs : List Xp) (A : Option Addr) (n c : Nat) (w : World) (h : Rs extE F w A n c xs) (hn : n ≤ 1000000000) :
    Calls Try.prog 22 #[.int .i64 b, .slice A n c] w fun e w' => e = .returned (.bool (mapB b xs)) ∧ Below w.heap.size w w' := by
  have HN : Hid (xs.length = n) := h.len
  have hcap := h.cap
  have hbig := h.big
  by_cases hb : 1 ≤ b ∧ b ≤ 64
  · have hM : mapB b xs = mchain none 0 xs b := by unfold mapB; rw [decide_eq_true hb]; rfl
    rw [hM]
    clear hM
    obtain ⟨R, hR⟩ : ∃ R, Hid (mchain none 0 xs b = R) := ⟨_, rfl⟩
    rw [hR.out]
    obtain ⟨hb1, hb2⟩ := hb
    go_enter Try.func22, Try.ntmps22
    go_wp2_with fail
    go_loopg [5, 6] n (fun g o i wr => ∃ (k : Nat) (v : Int) (p : Option Xp), k + g = n ∧ o = .int .i64 v ∧ i = .int .i64 (k : Int) ∧ Hid (0 ≤ v ∧ v ≤ 64) ∧ Hid (mchain p v (xs.drop k) b = R) ∧ Hid (∀ j : Nat, k = j + 1 → ∃ y, xs[j]? = some y ∧ p = some y) ∧ Hid (k = 0 → p = none) ∧ Below w.heap.size w wr)
    case atStart => exact ⟨0, 0, none, by omega, rfl, rfl, ⟨by omega, by omega⟩, hR, fun j hj => by omega, fun _ => rfl, Below.refl _ _⟩
    case round =>
      obtain ⟨k, v, p, hk, rfl, rfl, hvb, hv, hp, hp0, bb⟩ := hrel
      clear hR
      by_cases hlt : (k : Int) < (n : Int)
      · skip
        obtain ⟨g, rfl⟩ : ∃ g, gk = g + 1 := ⟨gk - 1, by omega⟩
        obtain ⟨gb, o, x, Ai, ci, rfl, hFg, hg, hz, c0', c1', c2', c3', c4', hS, hA⟩ := h.ext_at (show k < n by omega)
        have y0 := (bb.cell hg).trans c0'
        have y1 := (bb.cell hg).trans c1'
        have y2 := (bb.cell hg).trans c2'
        have y3 := (bb.cell hg).trans c3'
        have y4 := (bb.cell hg).trans c4'
        have hC := fCheck_any x.la x.n x.k x.g Ai x.l.length ci wr
        cases r1 : xchk x.la x.n x.k x.g x.l.length
        · rw [r1] at hC
          have hr := Lib.hid (hv.out.symm.trans (mchain_no1 hz (.inl r1)))
          go_wp2_with fail
          refine hC.mono ?_
          clear hC
          rintro e w3 ⟨rfl, b3⟩
          replace bb := bb.trans (b3.mono bb.size)
          clear b3 y0 y1 y2 y3 y4
          have y0 := (bb.cell hg).trans c0'
          have y1 := (bb.cell hg).trans c1'
          have y2 := (bb.cell hg).trans c2'
          have y3 := (bb.cell hg).trans c3'
          have y4 := (bb.cell hg).trans c4'
          go_wp2
          go_ret
          exact ⟨by rw [hr.out]; rfl, bb⟩
        rw [r1] at hC
        by_cases hxv : ¬ x.la = v
        · have hr := Lib.hid (hv.out.symm.trans (mchain_no1 hz (.inr hxv)))
          clear r1
          go_wp2_with fail
          refine hC.mono ?_
          clear hC
          rintro e w3 ⟨rfl, b3⟩
          replace bb := bb.trans (b3.mono bb.size)
          clear b3 y0 y1 y2 y3 y4
          have y0 := (bb.cell hg).trans c0'
          have y1 := (bb.cell hg).trans c1'
          have y2 := (bb.cell hg).trans c2'
          have y3 := (bb.cell hg).trans c3'
          have y4 := (bb.cell hg).trans c4'
          go_wp2
          go_ret
          exact ⟨by rw [hr.out]; rfl, bb⟩
        replace hxv := Lib.hid (Classical.not_not.1 hxv)
        have ha := xchk_all r1
        have hw : wrap64 (v + x.n) = v + x.n := by have := hxv.out; unfold wrap64; omega
        have hs64 : 0 ≤ v + x.n ∧ v + x.n ≤ 64 := by have := hxv.out; omega
        obtain ⟨s, hs⟩ : ∃ s, v + x.n = s := ⟨_, rfl⟩
        rw [hs] at hs64
        replace hw := hw.trans hs
        replace hs64 := Lib.hid hs64
        replace hs := Lib.hid hs
        clear ha
        by_cases hk0 : k = 0
        · have hst := hv.out.symm.trans (mchain_yes hz r1 hxv.out (fun y hy => by rw [hp0.out hk0] at hy; cases hy))
          rw [hs.out] at hst
          replace hst := Lib.hid hst.symm
          replace r1 := Lib.hid r1
          obtain rfl := hk0
          simp only [Nat.zero_mul, Nat.add_zero] at y0 y1 y2 y3 y4 c0' c1' c2' c3' c4'
          go_wp2_with fail
          refine hC.mono ?_
          clear hC
          rintro e w3 ⟨rfl, b3⟩
          replace bb := bb.trans (b3.mono bb.size)
          clear b3 y0 y1 y2 y3 y4
          have y0 := (bb.cell hg).trans c0'
          have y1 := (bb.cell hg).trans c1'
          have y2 := (bb.cell hg).trans c2'
          have y3 := (bb.cell hg).trans c3'
          have y4 := (bb.cell hg).trans c4'
          rw [hxv.out] at y0
          have hnx : ∀ j : Nat, 0 + 1 = j + 1 → ∃ y, xs[j]? = some y ∧ some x = some y := fun j hj => ⟨x, by (obtain rfl : j = 0 := by omega); exact hz, rfl⟩
          replace hnx := Lib.hid hnx
          go_wp2
          go_roundg g
          case measure => omega
          case rel => exact ⟨0 + 1, s, some x, by omega, by rw [hw], by first | rfl | (simp; done) | (simp; exact wrap64_small (by omega) (by omega)), hs64, hst, hnx, fun h0 => by omega, bb⟩
        · obtain ⟨j, hj⟩ : ∃ j, k = j + 1 := ⟨k - 1, by omega⟩
          obtain ⟨y, hy, hpy⟩ := hp.out j hj
          obtain ⟨gb2, o2, y2', Aj, cj, hA2, _, hg2, hz2, d0', d1', d2', d3', d4', hSy, _⟩ := h.ext_at (show j < n by omega)
          obtain rfl : y2' = y := Option.some.inj (hz2.symm.trans hy)
          obtain ⟨rfl, rfl⟩ : gb2 = gb ∧ o2 = o := by
            have := Option.some.inj hA2
            exact ⟨(congrArg Addr.block this).symm, (congrArg Addr.off this).symm⟩
          clear hA2 hg2
          have hij : wrap64 ((k : Int) - 1) = (j : Int) := by unfold wrap64; omega
          have hij2 : IntKind.i64.wrap ((k : Int) - 1) = (j : Int) := (IntWalk.i64_left _).trans hij
          have hjb : (0 : Int) ≤ (j : Int) ∧ (j : Int) < (n : Int) := by omega
          replace hj := Lib.hid hj
          have hJt := fun W => fJoins_any y2'.la y2'.n y2'.k y2'.g Aj y2'.l.length cj x.la x.n x.k x.g Ai x.l.length ci W
          simp only [xjF_eq] at hJt
          replace r1 := Lib.hid r1
          go_wp2_with fail
          refine hC.mono ?_
          clear hC
          rintro e w3 ⟨rfl, b3⟩
          replace bb := bb.trans (b3.mono bb.size)
          clear b3 y0 y1 y2 y3 y4
          have y0 := (bb.cell hg).trans c0'
          have y1 := (bb.cell hg).trans c1'
          have y2 := (bb.cell hg).trans c2'
          have y3 := (bb.cell hg).trans c3'
          have y4 := (bb.cell hg).trans c4'
          rw [hxv.out] at y0
          have hkp : (k : Int) > 0 := by omega
          go_wp2_with fail
          refine wp_region_held_drew (S := fun w' => Below w.heap.size w w') (by kernel_rfl) bb.drew (fun hHeld => ?_)
          try dsimp only at hHeld
          generalize w3.drew = wd at *
          try simp only [Act.put, List.setIfInBounds_toArray, List.set_cons_zero, List.set_cons_succ]
          refine wpAnyH_take (i := 0) (v := ?_) (by simp only [List.getElem?_toArray, List.getElem?_cons_zero]; rfl) (by kernel_rfl) (by kernel_rfl) (by kernel_rfl) (by intro _ _ _ h; exact h) (Or.inl ⟨by rfl, ?_⟩) hHeld ?_
          rotate_left 1
          · intro wq hSw
            try dsimp only at hSw
            go_simp
            try (with_reducible rfl)
          try simp only [Act.put, List.setIfInBounds_toArray, List.set_cons_zero, List.set_cons_succ]
          refine wpAnyH_take (i := 1) (v := ?_) (by simp only [List.getElem?_toArray, List.getElem?_cons_succ, List.getElem?_cons_zero]; rfl) (by kernel_rfl) (by kernel_rfl) (by kernel_rfl) (by intro _ _ _ h; exact h) (Or.inl ⟨by rfl, ?_⟩) hHeld ?_
          rotate_left 1
          · intro wq hSw
            try dsimp only at hSw
            go_simp
            try (with_reducible rfl)
          try simp only [Act.put, List.setIfInBounds_toArray, List.set_cons_zero, List.set_cons_succ]
          refine wpAnyH_take (i := 2) (v := ?_) (by simp only [List.getElem?_toArray, List.getElem?_cons_succ, List.getElem?_cons_zero]; rfl) (by kernel_rfl) (by kernel_rfl) (by kernel_rfl) (by intro _ _ _ h; exact h) (Or.inl ⟨by rfl, ?_⟩) hHeld ?_
          rotate_left 1
          · intro wq hSw
            try dsimp only at hSw
            go_simp
            try (with_reducible rfl)
          try simp only [Act.put, List.setIfInBounds_toArray, List.set_cons_zero, List.set_cons_succ]
          refine wpAnyH_take (i := 3) (v := ?_) (by simp only [List.getElem?_toArray, List.getElem?_cons_succ, List.getElem?_cons_zero]; rfl) (by kernel_rfl) (by kernel_rfl) (by kernel_rfl) (by intro _ _ _ h; exact h) (Or.inl ⟨by rfl, ?_⟩) hHeld ?_
          rotate_left 1
          · intro wq hSw
            try dsimp only at hSw
            go_simp
            try (with_reducible rfl)
          try simp only [Act.put, List.setIfInBounds_toArray, List.set_cons_zero, List.set_cons_succ]
          refine wpAnyH_take (i := 4) (v := ?_) (by simp only [List.getElem?_toArray, List.getElem?_cons_succ, List.getElem?_cons_zero]; rfl) (by kernel_rfl) (by kernel_rfl) (by kernel_rfl) (by intro _ _ _ h; exact h) (Or.inl ⟨by rfl, ?_⟩) hHeld ?_
          rotate_left 1
          · intro wq hSw
            try dsimp only at hSw
            have q0 := (hSw.cell hg).trans d0'
            have q1 := (hSw.cell hg).trans d1'
            have q2 := (hSw.cell hg).trans d2'
            have q3 := (hSw.cell hg).trans d3'
            have q4 := (hSw.cell hg).trans d4'
            go_simp
            try (with_reducible rfl)
          try simp only [Act.put, List.setIfInBounds_toArray, List.set_cons_zero, List.set_cons_succ]
          refine wpAnyH_take (i := 5) (v := ?_) (by simp only [List.getElem?_toArray, List.getElem?_cons_succ, List.getElem?_cons_zero]; rfl) (by kernel_rfl) (by kernel_rfl) (by kernel_rfl) (by intro _ _ _ h; exact h) (Or.inl ⟨by rfl, ?_⟩) hHeld ?_
          rotate_left 1
          · intro wq hSw
            try dsimp only at hSw
            go_simp
            try (with_reducible rfl)
          try simp only [Act.put, List.setIfInBounds_toArray, List.set_cons_zero, List.set_cons_succ]
          refine wpAnyH_take (i := 6) (v := ?_) (by simp only [List.getElem?_toArray, List.getElem?_cons_succ, List.getElem?_cons_zero]; rfl) (by kernel_rfl) (by kernel_rfl) (by kernel_rfl) (by intro _ _ _ h; exact h) (Or.inl ⟨by rfl, ?_⟩) hHeld ?_
          rotate_left 1
          · intro wq hSw
            try dsimp only at hSw
            go_simp
            try (with_reducible rfl)
          try simp only [Act.put, List.setIfInBounds_toArray, List.set_cons_zero, List.set_cons_succ]
          refine wpAnyH_take (i := 7) (v := ?_) (by simp only [List.getElem?_toArray, List.getElem?_cons_succ, List.getElem?_cons_zero]; rfl) (by kernel_rfl) (by kernel_rfl) (by kernel_rfl) (by intro _ _ _ h; exact h) (Or.inl ⟨by rfl, ?_⟩) hHeld ?_
          rotate_left 1
          · intro wq hSw
            try dsimp only at hSw
            go_simp
            try (with_reducible rfl)
          try simp only [Act.put, List.setIfInBounds_toArray, List.set_cons_zero, List.set_cons_succ]
          refine wpAnyH_take (i := 8) (v := ?_) (by simp only [List.getElem?_toArray, List.getElem?_cons_succ, List.getElem?_cons_zero]; rfl) (by kernel_rfl) (by kernel_rfl) (by kernel_rfl) (by intro _ _ _ h; exact h) (Or.inl ⟨by rfl, ?_⟩) hHeld ?_
          rotate_left 1
          · intro wq hSw
            try dsimp only at hSw
            have q0 := (hSw.cell hg).trans c0'
            have q1 := (hSw.cell hg).trans c1'
            have q2 := (hSw.cell hg).trans c2'
            have q3 := (hSw.cell hg).trans c3'
            have q4 := (hSw.cell hg).trans c4'
            go_simp
            try (with_reducible rfl)
          try simp only [Act.put, List.setIfInBounds_toArray, List.set_cons_zero, List.set_cons_succ]
          refine wpAnyH_ready (rs := [9]) (by kernel_rfl) (by simp) ?_
          refine AllReadyH.cons (by simp only [List.getElem?_toArray, List.getElem?_cons_succ, List.getElem?_cons_zero]; rfl) (fun K hK => ?_) AllReadyH.nil
          go_simp
          refine (hJt _).mono ?_
          rintro e w5 ⟨rfl, b5⟩
          have bd5 := hHeld.trans (b5.mono hHeld.size)
          go_wp2_with fail
          refine hK.out _ _ (bd5) (fun hHeld => ?_)
          clear hK K
          try dsimp only at hHeld
          try simp only [Act.put, List.setIfInBounds_toArray, List.set_cons_zero, List.set_cons_succ]
          refine wpAnyH_take (i := 10) (v := ?_) (by simp only [List.getElem?_toArray, List.getElem?_cons_succ, List.getElem?_cons_zero]; rfl) (by kernel_rfl) (by kernel_rfl) (by kernel_rfl) (by intro _ _ _ h; exact h) (Or.inl ⟨by rfl, ?_⟩) hHeld ?_
          rotate_left 1
          · intro wq hSw
            try dsimp only at hSw
            go_simp
            try (with_reducible rfl)
          try simp only [Act.put, List.setIfInBounds_toArray, List.set_cons_zero, List.set_cons_succ]
          refine wpAnyH_done (by kernel_rfl) ?_ _
          clear bb y0 y1 y2 y3 y4
          have bb := hHeld
          have y1 := (bb.cell hg).trans c1'
          cases hjj : xjoins y2' x
          · have hst := hv.out.symm.trans (mchain_yes hz r1.out hxv.out (fun y hy => by rw [hpy] at hy; cases hy; exact hjj))
            rw [hs.out] at hst
            replace hst := Lib.hid hst.symm
            try simp only [hjj]
            clear hpy hp hp0
            have hnx : ∀ j : Nat, k + 1 = j + 1 → ∃ y, xs[j]? = some y ∧ some x = some y := fun j hj => ⟨x, by (obtain rfl : j = k := by omega); exact hz, rfl⟩
            replace hnx := Lib.hid hnx
            go_wp2
            go_roundg g
            case measure => omega
            case rel => exact ⟨k + 1, s, some x, by omega, by rw [hw], by first | rfl | (simp; done) | (simp; exact wrap64_small (by omega) (by omega)), hs64, hst, hnx, fun h0 => by omega, bb⟩
          · have hr := Lib.hid (hv.out.symm.trans (mchain_no2 hz hpy hjj))
            try simp only [hjj]
            clear hpy hp hp0
            go_wp2
            go_ret
            exact ⟨by rw [hr.out]; rfl, bb⟩
      · have hr := hv.out
        rw [List.drop_of_length_le (by have := HN.out; omega), mchain_end] at hr
        have : (decide (v = b)) = R := hr
        go_wp2
        go_ret
        exact ⟨by rw [← this]; congr 2, bb⟩
  · have hM : mapB b xs = false := by unfold mapB; rw [decide_eq_false hb]; rfl
    rw [hM]
    by_cases h1 : b < 1
    · go_enter Try.func22, Try.ntmps22
      go_wp2
      go_ret
      exact ⟨rfl, Below.refl _ _⟩
    · have h2 : b > 64 := by omega
      go_enter Try.func22, Try.ntmps22
      go_wp2
      go_ret
      exact ⟨rfl, Below.refl _ _⟩
end Go.Proofs.Ytagageidiebogaa
