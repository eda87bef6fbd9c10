/-
  Contracts of package extmap's joined and of what it hands back, an iterator (written by gen_em5.py).
-/
import Derived.Test.YtepaojegcaapfaaEm2
import Derived.RangeFuncNested
import Derived.RangeFuncBound
import Derived.RangeFuncCalls
import Derived.RangeFuncLeaves
import Derived.OwnWalkIn
import Derived.TacticsInMore
import Derived.LoopNIn
import Derived.LoopIn
import Derived.Deep.Cut
namespace Go.Wag
open Go.RowKit
set_option linter.unusedVariables false
theorem jgo_yes {x y : Xp} {xs : List Xp} {j : Nat} (hz : xs[j]? = some y) (h : xjoins x y = true) : jgo x (xs.drop j) = jgo (xboth x y) (xs.drop (j + 1)) := by
  rw [drop_one hz, jgo_cons, if_pos h]
theorem jgo_no {x y : Xp} {xs : List Xp} {j : Nat} (hz : xs[j]? = some y) (h : xjoins x y = false) : jgo x (xs.drop j) = x :: joinL (xs.drop j) := by
  rw [drop_one hz, jgo_cons, if_neg (by simp [h])]
  rfl
theorem jgo_end {x : Xp} {xs : List Xp} {j : Nat} (hj : xs.length ≤ j) : jgo x (xs.drop j) = x :: joinL (xs.drop j) := by
  rw [List.drop_of_length_le hj]
  rfl
theorem joinL_at {x : Xp} {xs : List Xp} {j : Nat} (hz : xs[j]? = some x) : joinL (xs.drop j) = jgo x (xs.drop (j + 1)) := by
  rw [drop_one hz]
  rfl
end Go.Wag
namespace Go.Proofs.Ytepaojegcaapfaa
open Go.RowKit Go.Wag
set_option linter.unusedVariables false
set_option linter.unusedSimpArgs false
set_option maxRecDepth 20000
theorem joined_any (A : Option Addr) (n c : Nat) (w : World) : Calls Try.prog 59 #[.slice A n c] w fun e w' => e = .returned (.func (.func 90) #[] #[.pointer (some ⟨w.heap.size, 0, none⟩)]) ∧ w' = w.alloc (.cells #[.slice A n c] 22) := by
  go_enter Try.func59, Try.ntmps59
  go_wp2
  go_ret
  exact ⟨rfl, rfl⟩
/-- Where an extent's bytes may lie, that is handed on. -/
def HandOn (Fd : Nat → Prop) (W2 W1 : World) (x : Xp) (Ai : Option Addr) (mi ci : Nat) : Prop := Hid (x.l.length = mi) ∧ Sl W1 Ai mi ci (x.l.map v8) ∧ (0 < mi → ∀ ad, Ai = some ad → Fd ad.block ∨ W2.heap.size ≤ ad.block)
theorem HandOn.below {Fd : Nat → Prop} {W2 W1 W3 : World} {x : Xp} {Ai : Option Addr} {mi ci : Nat} (h : HandOn Fd W2 W1 x Ai mi ci) (hb : Below W1.heap.size W1 W3) : HandOn Fd W2 W3 x Ai mi ci := ⟨h.1, h.2.1.below hb, h.2.2⟩
set_option maxHeartbeats 4000000 in
theorem joined1_any (m l bl : Nat) (Fd : Nat → Prop) (xs : List Xp) (A : Option Addr) (n c : Nat) (J : List Xp → World → Prop) (hm : 2 ≤ m)
    (hJ : ∀ pre W, J pre W → W.cell? ⟨bl, 0, none⟩ = some (.slice A n c) ∧ bl < W.heap.size ∧ Rs extE Fd W A n c xs)
    (hla : ∀ x ∈ xs, x.la ≤ 9223372036854775807) (hn : n ≤ 1000000000)
    (hY : ∀ pre (x : Xp) Ai mi ci W2 W1, J pre W2 → Below W2.heap.size W2 W1 → HandOn Fd W2 W1 x Ai mi ci → pre.length < n →
      YieldAt Fence.wide (m - 1) Try.prog l #[.agg #[.int .i64 x.la, .int .i64 x.n, .int .i64 x.k, .int .i64 x.g, .slice Ai mi ci]] W1 fun e W' => e = .returned (.bool true) ∧ J (pre ++ [x]) W')
    (W : World) (h0 : J [] W) :
    CallsIn Fence.wide m Try.prog 90 #[.func (.yield l) #[] #[], .pointer (some ⟨bl, 0, none⟩)] W fun e W' => (∃ v, e = .returned v) ∧ ∃ W2, J (joinL xs) W2 ∧ Below W2.heap.size W2 W' := by
  refine callsIn_wide.2 ?_
  have HN : Hid (xs.length = n) := (hJ _ _ h0).2.2.len
  have hcap := (hJ _ _ h0).2.2.cap
  have hbig := (hJ _ _ h0).2.2.big
  go_enter Try.func90, Try.ntmps90
  go_wp2_with fail
  go_loopg [3] n (fun g i wr => ∃ (k : Nat) (pre : List Xp) (W2 : World), k + g = n ∧ i = .int .i64 (k : Int) ∧ Hid (joinL xs = pre ++ joinL (xs.drop k)) ∧ Hid (pre.length ≤ k) ∧ J pre W2 ∧ Below W2.heap.size W2 wr)
  case atStart => exact ⟨0, [], W, by omega, rfl, rfl, Nat.le_refl _, h0, Below.refl _ _⟩
  case round =>
    obtain ⟨k, pre, W2, hk, rfl, hpre, hpl, hJ2, bb⟩ := hrel
    clear h0
    obtain ⟨hbl, hbs, hR⟩ := hJ _ _ hJ2
    have hq := (bb.cell (p := ⟨bl, 0, none⟩) hbs).trans hbl
    by_cases hlt : (k : Int) < (n : Int)
    · obtain ⟨g, rfl⟩ : ∃ g, gk = g + 1 := ⟨gk - 1, by omega⟩
      obtain ⟨gb, o, x, Ai, ci, rfl, hFg, hg, hz, c0', c1', c2', c3', c4', hS, hA⟩ := hR.ext_at (show k < n by omega)
      have y0 := (bb.cell hg).trans c0'
      have y1 := (bb.cell hg).trans c1'
      have y2 := (bb.cell hg).trans c2'
      have y3 := (bb.cell hg).trans c3'
      have y4 := (bb.cell hg).trans c4'
      have hxla := hla x (List.mem_iff_getElem?.2 ⟨k, hz⟩)
      have H0 : HandOn Fd W2 wr x Ai x.l.length ci := ⟨rfl, hS.below bb, fun h ad e => .inl (hA h ad e)⟩
      have V0 := Blk.new wr #[.int .i64 x.la, .int .i64 x.n, .int .i64 x.k, .int .i64 x.g, .slice Ai x.l.length ci] 38
      have a1 := (Below.refl wr.heap.size wr).alloc (Nat.le_refl _) (.cells #[.int .i64 x.la, .int .i64 x.n, .int .i64 x.k, .int .i64 x.g, .slice Ai x.l.length ci] 38)
      replace H0 := H0.below a1
      have hb4 := bb.size
      have bb1 := bb.trans (a1.mono bb.size)
      have hst := hpre.out
      rw [joinL_at hz] at hst
      replace hst := Lib.hid hst
      clear a1 hpre hS hA c0' c1' c2' c3' c4'
      have hk0 : k < n := by omega
      replace hk0 := Lib.hid hk0
      replace hk := Lib.hid hk
      obtain ⟨b4, hb4e⟩ : ∃ b, wr.heap.size = b := ⟨_, rfl⟩
      go_wp2_with fail
      rw [hb4e] at V0 hb4
      try simp only [hb4e]
      generalize wr.alloc (.cells #[.int .i64 x.la, .int .i64 x.n, .int .i64 x.k, .int .i64 x.g, .slice Ai x.l.length ci] 38) = wa at *
      clear y0 y1 y2 y3 y4 hq hbl hb4e
      go_loopg [3] n (fun g i wr => ∃ (j : Nat) (x : Xp) (Ai : Option Addr) (mi ci : Nat), j + g = n + k ∧ k ≤ j ∧ j < n ∧ i = .int .i64 (j : Int) ∧ Hid (joinL xs = pre ++ jgo x (xs.drop (j + 1))) ∧ x.la ≤ 9223372036854775807 ∧ HandOn Fd W2 wr x Ai mi ci ∧ Blk wr b4 #[.int .i64 x.la, .int .i64 x.n, .int .i64 x.k, .int .i64 x.g, .slice Ai mi ci] 38 ∧ Below W2.heap.size W2 wr)
      case atStart => exact ⟨k, x, Ai, x.l.length, ci, by omega, Nat.le_refl _, hk0.out, rfl, hst, hxla, H0, V0, bb1⟩
      case round =>
        clear H0 V0 bb1 hst hxla hz bb
        obtain ⟨j, x, Ai, mi, ci, hjg, hkj, hjn, rfl, hst, hxla, H, V, bb⟩ := hrel
        obtain ⟨hbl, hbs, hR⟩ := hJ _ _ hJ2
        obtain ⟨j1, hj1⟩ : ∃ j1, Hid (j1 = j + 1) := ⟨_, rfl⟩
        have hw1 : wrap64 ((j : Int) + 1) = (j1 : Int) := by have := hj1.out; unfold wrap64; omega
        have hw2 : IntKind.i64.wrap ((j : Int) + 1) = (j1 : Int) := (IntWalk.i64_left _).trans hw1
        rw [← hj1.out] at hst
        by_cases hjn1 : j1 < n
        · obtain ⟨gb2, o2, y, Aj, cj, hA2, _, hg2, hz2, d0', d1', d2', d3', d4', hSy, _⟩ := hR.ext_at hjn1
          obtain ⟨rfl, rfl⟩ : gb2 = gb ∧ o2 = o := by
            have := Option.some.inj hA2
            exact ⟨(congrArg Addr.block this).symm, (congrArg Addr.off this).symm⟩
          have hyla := hla y (List.mem_iff_getElem?.2 ⟨j1, hz2⟩)
          have hj1b : (0 : Int) ≤ (j1 : Int) ∧ (j1 : Int) < (n : Int) := by omega
          have hJs := fun W => eJoins_any x.la x.n x.k x.g Ai mi ci y.la y.n y.k y.g Aj y.l.length cj W hxla hyla
          have hxj : xjF x.la x.n x.k x.g mi y.la y.n y.k y.g y.l.length = xjoins x y := by rw [← H.1.out]; exact xjF_eq x y
          simp only [hxj] at hJs
          have hyl : Hid (y.l.length = y.l.length) := rfl
          clear hA2 hxj
          go_wp2_with fail
          refine wp_region_held_drew (S := fun w' => Below W2.heap.size W2 w' ∧ Blk w' b4 #[.int .i64 x.la, .int .i64 x.n, .int .i64 x.k, .int .i64 x.g, .slice Ai mi ci] 38) (by kernel_rfl) ⟨bb.drew, V.drew⟩ (fun hHeld => ?_)
          try dsimp only at hHeld
          have Hd : HandOn Fd W2 wr.drew x Ai mi ci := ⟨H.1, H.2.1.drew, H.2.2⟩
          replace H := Hd
          clear Hd
          generalize wr.drew = wd at *
          try simp only [Act.put, List.setIfInBounds_toArray, List.set_cons_zero, List.set_cons_succ]
          refine wpAnyH_take (i := 0) (v := ?_) (by simp only [List.getElem?_toArray, List.getElem?_cons_zero]; rfl) (by kernel_rfl) (by kernel_rfl) (by kernel_rfl) (by intro _ _ _ h; exact h) (Or.inl ⟨by rfl, ?_⟩) hHeld ?_
          rotate_left 1
          · intro wq hSw
            try dsimp only at hSw
            go_simp
            try (with_reducible rfl)
          try simp only [Act.put, List.setIfInBounds_toArray, List.set_cons_zero, List.set_cons_succ]
          refine wpAnyH_take (i := 1) (v := ?_) (by simp only [List.getElem?_toArray, List.getElem?_cons_succ, List.getElem?_cons_zero]; rfl) (by kernel_rfl) (by kernel_rfl) (by kernel_rfl) (by intro _ _ _ h; exact h) (Or.inl ⟨by rfl, ?_⟩) hHeld ?_
          rotate_left 1
          · intro wq hSw
            try dsimp only at hSw
            go_simp
            try (with_reducible rfl)
          try simp only [Act.put, List.setIfInBounds_toArray, List.set_cons_zero, List.set_cons_succ]
          refine wpAnyH_take (i := 2) (v := ?_) (by simp only [List.getElem?_toArray, List.getElem?_cons_succ, List.getElem?_cons_zero]; rfl) (by kernel_rfl) (by kernel_rfl) (by kernel_rfl) (by intro _ _ _ h; exact h) (Or.inl ⟨by rfl, ?_⟩) hHeld ?_
          rotate_left 1
          · intro wq hSw
            try dsimp only at hSw
            have q := (hSw.1.cell (p := ⟨bl, 0, none⟩) hbs).trans hbl
            go_simp
            try (with_reducible rfl)
          try simp only [Act.put, List.setIfInBounds_toArray, List.set_cons_zero, List.set_cons_succ]
          refine wpAnyH_take (i := 3) (v := ?_) (by simp only [List.getElem?_toArray, List.getElem?_cons_succ, List.getElem?_cons_zero]; rfl) (by kernel_rfl) (by kernel_rfl) (by kernel_rfl) (by intro _ _ _ h; exact h) (Or.inl ⟨by rfl, ?_⟩) hHeld ?_
          rotate_left 1
          · intro wq hSw
            try dsimp only at hSw
            go_simp
            try (with_reducible rfl)
          try simp only [Act.put, List.setIfInBounds_toArray, List.set_cons_zero, List.set_cons_succ]
          refine wpAnyH_take (i := 4) (v := (.bool true)) (by simp only [List.getElem?_toArray, List.getElem?_cons_succ, List.getElem?_cons_zero]; rfl) (by kernel_rfl) (by kernel_rfl) (by kernel_rfl) (by intro _ _ _ h; exact h) (Or.inl ⟨by rfl, ?_⟩) hHeld ?_
          · intro wq hSw
            try dsimp only at hSw
            go_simp
            try omega
          try simp only [Act.put, List.setIfInBounds_toArray, List.set_cons_zero, List.set_cons_succ]
          refine wpAnyH_take (i := 5) (v := ?_) (by simp only [List.getElem?_toArray, List.getElem?_cons_succ, List.getElem?_cons_zero]; rfl) (by kernel_rfl) (by kernel_rfl) (by kernel_rfl) (by intro _ _ _ h; exact h) (Or.inl ⟨by rfl, ?_⟩) hHeld ?_
          rotate_left 1
          · intro wq hSw
            try dsimp only at hSw
            go_simp
            try (with_reducible rfl)
          try simp only [Act.put, List.setIfInBounds_toArray, List.set_cons_zero, List.set_cons_succ]
          refine wpAnyH_take (i := 6) (v := ?_) (by simp only [List.getElem?_toArray, List.getElem?_cons_succ, List.getElem?_cons_zero]; rfl) (by kernel_rfl) (by kernel_rfl) (by kernel_rfl) (by intro _ _ _ h; exact h) (Or.inl ⟨by rfl, ?_⟩) hHeld ?_
          rotate_left 1
          · intro wq hSw
            try dsimp only at hSw
            obtain ⟨q0, q1, q2, q3, q4, _⟩ := hSw.2.five
            go_simp
            try (with_reducible rfl)
          try simp only [Act.put, List.setIfInBounds_toArray, List.set_cons_zero, List.set_cons_succ]
          refine wpAnyH_take (i := 7) (v := ?_) (by simp only [List.getElem?_toArray, List.getElem?_cons_succ, List.getElem?_cons_zero]; rfl) (by kernel_rfl) (by kernel_rfl) (by kernel_rfl) (by intro _ _ _ h; exact h) (Or.inl ⟨by rfl, ?_⟩) hHeld ?_
          rotate_left 1
          · intro wq hSw
            try dsimp only at hSw
            have q := (hSw.1.cell (p := ⟨bl, 0, none⟩) hbs).trans hbl
            go_simp
            try (with_reducible rfl)
          try simp only [Act.put, List.setIfInBounds_toArray, List.set_cons_zero, List.set_cons_succ]
          refine wpAnyH_take (i := 8) (v := ?_) (by simp only [List.getElem?_toArray, List.getElem?_cons_succ, List.getElem?_cons_zero]; rfl) (by kernel_rfl) (by kernel_rfl) (by kernel_rfl) (by intro _ _ _ h; exact h) (Or.inl ⟨by rfl, ?_⟩) hHeld ?_
          rotate_left 1
          · intro wq hSw
            try dsimp only at hSw
            go_simp
            try (with_reducible rfl)
          try simp only [Act.put, List.setIfInBounds_toArray, List.set_cons_zero, List.set_cons_succ]
          refine wpAnyH_take (i := 9) (v := ?_) (by simp only [List.getElem?_toArray, List.getElem?_cons_succ, List.getElem?_cons_zero]; rfl) (by kernel_rfl) (by kernel_rfl) (by kernel_rfl) (by intro _ _ _ h; exact h) (Or.inl ⟨by rfl, ?_⟩) hHeld ?_
          rotate_left 1
          · intro wq hSw
            try dsimp only at hSw
            go_simp
            try (with_reducible rfl)
          try simp only [Act.put, List.setIfInBounds_toArray, List.set_cons_zero, List.set_cons_succ]
          refine wpAnyH_take (i := 10) (v := ?_) (by simp only [List.getElem?_toArray, List.getElem?_cons_succ, List.getElem?_cons_zero]; rfl) (by kernel_rfl) (by kernel_rfl) (by kernel_rfl) (by intro _ _ _ h; exact h) (Or.inl ⟨by rfl, ?_⟩) hHeld ?_
          rotate_left 1
          · intro wq hSw
            try dsimp only at hSw
            go_simp
            try (with_reducible rfl)
          try simp only [Act.put, List.setIfInBounds_toArray, List.set_cons_zero, List.set_cons_succ]
          refine wpAnyH_take (i := 11) (v := ?_) (by simp only [List.getElem?_toArray, List.getElem?_cons_succ, List.getElem?_cons_zero]; rfl) (by kernel_rfl) (by kernel_rfl) (by kernel_rfl) (by intro _ _ _ h; exact h) (Or.inl ⟨by rfl, ?_⟩) hHeld ?_
          rotate_left 1
          · intro wq hSw
            try dsimp only at hSw
            have q0 := (hSw.1.cell hg2).trans d0'
            have q1 := (hSw.1.cell hg2).trans d1'
            have q2 := (hSw.1.cell hg2).trans d2'
            have q3 := (hSw.1.cell hg2).trans d3'
            have q4 := (hSw.1.cell hg2).trans d4'
            go_simp
            try (with_reducible rfl)
          try simp only [Act.put, List.setIfInBounds_toArray, List.set_cons_zero, List.set_cons_succ]
          refine wpAnyH_ready (rs := [12]) (by kernel_rfl) (by simp) ?_
          refine AllReadyH.cons (by simp only [List.getElem?_toArray, List.getElem?_cons_succ, List.getElem?_cons_zero]; rfl) (fun K hK => ?_) AllReadyH.nil
          go_simp
          refine (hJs _).mono ?_
          rintro e w5 ⟨rfl, b5⟩
          have bd5 := hHeld.1.trans (b5.mono hHeld.1.size)
          have V5 := hHeld.2.under b5
          have H5 := H.below b5
          go_wp2_with fail
          refine hK.out _ _ (⟨bd5, V5⟩) (fun hHeld => ?_)
          clear hK K
          try dsimp only at hHeld
          try simp only [Act.put, List.setIfInBounds_toArray, List.set_cons_zero, List.set_cons_succ]
          refine wpAnyH_take (i := 13) (v := ?_) (by simp only [List.getElem?_toArray, List.getElem?_cons_succ, List.getElem?_cons_zero]; rfl) (by kernel_rfl) (by kernel_rfl) (by kernel_rfl) (by intro _ _ _ h; exact h) (Or.inl ⟨by rfl, ?_⟩) hHeld ?_
          rotate_left 1
          · intro wq hSw
            try dsimp only at hSw
            go_simp
            try (with_reducible rfl)
          try simp only [Act.put, List.setIfInBounds_toArray, List.set_cons_zero, List.set_cons_succ]
          refine wpAnyH_done (by kernel_rfl) ?_ _
          clear hJs bd5 V5 b5 H bb V
          obtain ⟨bb, V⟩ := hHeld
          cases hjj : xjoins x y
          · have hst2 := hst.out.trans (congrArg (pre ++ ·) (jgo_no hz2 hjj))
            try simp only [hjj]
            clear hst
            go_upto_region 7 with (fail)
            obtain ⟨v0, v1, v2, v3, v4, _⟩ := V.five
            obtain ⟨fn, tmps, assign, body, hy, hR3⟩ := hY pre x Ai mi ci W2 w5 hJ2 bb H5 (by have := hpl.out; omega)
            replace hst2 := Lib.hid (hst2.trans (List.append_cons pre x _))
            have hpl2 : Hid ((pre ++ [x]).length ≤ j1) := by (have := hpl.out; have := hj1.out; show (pre ++ [x]).length ≤ j1; rw [List.length_append]; simp; omega)
            refine (wpIn_wide (n := m)).1 ?_
            gi_wp2
            refine ⟨fun _ => by omega, hR3.mono ?_⟩
            rintro e W3 ⟨rfl, hJ3⟩
            gi_wp2
            go_wp2
            go_roundg (n - j1)
            case measure => have := hk.out; have := hj1.out; omega
            case rel => exact ⟨j1, pre ++ [x], W3, by have := hj1.out; omega, by first | rfl | (simp; done), hst2, hpl2, hJ3, Below.refl _ _⟩
          · have hst2 := Lib.hid (hst.out.trans (congrArg (pre ++ ·) (jgo_yes hz2 hjj)))
            try simp only [hjj]
            clear hst
            have hC := fun W h1 h2 => eJoin_ok x.la x.n x.k x.g Ai mi ci x.l y.la y.n y.k y.g Aj y.l.length cj y.l W hxla hyla h1 h2 (y := xboth x y) (xjoin_yes hjj)
            have hbla : (xboth x y).la ≤ 9223372036854775807 := hxla
            obtain ⟨gq, hgq⟩ : ∃ q, gk = q + 1 := ⟨gk - 1, by have := hj1.out; omega⟩
            subst hgq
            replace hjj := Lib.hid hjj
            go_wp2_with fail
            refine wp_region_held_drew (S := fun w' => Below W2.heap.size W2 w') (by kernel_rfl) bb.drew (fun hHeld => ?_)
            try dsimp only at hHeld
            have Vd := V.drew
            have Hd : HandOn Fd W2 w5.drew x Ai mi ci := ⟨H5.1, H5.2.1.drew, H5.2.2⟩
            generalize w5.drew = wd at *
            clear V H5 bb
            try simp only [Act.put, List.setIfInBounds_toArray, List.set_cons_zero, List.set_cons_succ]
            refine wpAnyH_take (i := 1) (v := ?_) (by simp only [List.getElem?_toArray, List.getElem?_cons_succ, List.getElem?_cons_zero]; rfl) (by kernel_rfl) (by kernel_rfl) (by kernel_rfl) (by intro _ _ _ h; exact h) (Or.inl ⟨by rfl, ?_⟩) hHeld ?_
            rotate_left 1
            · intro wq hSw
              try dsimp only at hSw
              have q := (hSw.cell (p := ⟨bl, 0, none⟩) hbs).trans hbl
              go_simp
              try (with_reducible rfl)
            try simp only [Act.put, List.setIfInBounds_toArray, List.set_cons_zero, List.set_cons_succ]
            refine wpAnyH_take (i := 2) (v := ?_) (by simp only [List.getElem?_toArray, List.getElem?_cons_succ, List.getElem?_cons_zero]; rfl) (by kernel_rfl) (by kernel_rfl) (by kernel_rfl) (by intro _ _ _ h; exact h) (Or.inl ⟨by rfl, ?_⟩) hHeld ?_
            rotate_left 1
            · intro wq hSw
              try dsimp only at hSw
              go_simp
              try (with_reducible rfl)
            try simp only [Act.put, List.setIfInBounds_toArray, List.set_cons_zero, List.set_cons_succ]
            refine wpAnyH_take (i := 3) (v := ?_) (by simp only [List.getElem?_toArray, List.getElem?_cons_succ, List.getElem?_cons_zero]; rfl) (by kernel_rfl) (by kernel_rfl) (by kernel_rfl) (by intro _ _ _ h; exact h) (Or.inl ⟨by rfl, ?_⟩) hHeld ?_
            rotate_left 1
            · intro wq hSw
              try dsimp only at hSw
              go_simp
              try (with_reducible rfl)
            try simp only [Act.put, List.setIfInBounds_toArray, List.set_cons_zero, List.set_cons_succ]
            refine wpAnyH_take (i := 4) (v := ?_) (by simp only [List.getElem?_toArray, List.getElem?_cons_succ, List.getElem?_cons_zero]; rfl) (by kernel_rfl) (by kernel_rfl) (by kernel_rfl) (by intro _ _ _ h; exact h) (Or.inl ⟨by rfl, ?_⟩) hHeld ?_
            rotate_left 1
            · intro wq hSw
              try dsimp only at hSw
              have q0 := (hSw.cell hg2).trans d0'
              have q1 := (hSw.cell hg2).trans d1'
              have q2 := (hSw.cell hg2).trans d2'
              have q3 := (hSw.cell hg2).trans d3'
              have q4 := (hSw.cell hg2).trans d4'
              go_simp
              try (with_reducible rfl)
            try simp only [Act.put, List.setIfInBounds_toArray, List.set_cons_zero, List.set_cons_succ]
            refine wpAnyH_ready (rs := [0]) (by kernel_rfl) (by simp) ?_
            refine AllReadyH.cons (by simp only [List.getElem?_toArray, List.getElem?_cons_zero]; rfl) (fun K hK => ?_) AllReadyH.nil
            obtain ⟨v0, v1, v2, v3, v4, _⟩ := Vd.five
            go_simp
            refine hK.out _ _ (hHeld) (fun hHeld => ?_)
            clear hK K
            try dsimp only at hHeld
            clear v0 v1 v2 v3 v4
            try simp only [Act.put, List.setIfInBounds_toArray, List.set_cons_zero, List.set_cons_succ]
            refine wpAnyH_ready (rs := [5]) (by kernel_rfl) (by simp) ?_
            refine AllReadyH.cons (by simp only [List.getElem?_toArray, List.getElem?_cons_succ, List.getElem?_cons_zero]; rfl) (fun K hK => ?_) AllReadyH.nil
            go_simp
            refine (hC wd Hd.2.1 (hSy.below hHeld)).mono ?_
            clear hC
            rintro e w7 ⟨A7, m7, c7, hm7, rfl, N7, b7⟩
            have bd7 := hHeld.trans (b7.mono hHeld.size)
            have V7 := Vd.under b7
            have hA7 : ∀ ad, A7 = some ad → W2.heap.size ≤ ad.block ∧ ad.block ≠ b4 := fun ad e => by (have h1 := N7.fr ad e; have h2 := Vd.lt; have h3 := hHeld.size; exact ⟨by omega, by omega⟩)
            have S7 := N7.sl
            go_wp2_with fail
            refine hK.out _ _ (bd7) (fun hHeld => ?_)
            clear hK K
            try dsimp only at hHeld
            clear N7 b7 Vd Hd
            try simp only [Act.put, List.setIfInBounds_toArray, List.set_cons_zero, List.set_cons_succ]
            refine wpAnyH_take (i := 6) (v := ?_) (by simp only [List.getElem?_toArray, List.getElem?_cons_succ, List.getElem?_cons_zero]; rfl) (by kernel_rfl) (by kernel_rfl) (by kernel_rfl) (by intro _ _ _ h; exact h) (Or.inl ⟨by rfl, ?_⟩) hHeld ?_
            rotate_left 1
            · intro wq hSw
              try dsimp only at hSw
              go_simp
              try (with_reducible rfl)
            try simp only [Act.put, List.setIfInBounds_toArray, List.set_cons_zero, List.set_cons_succ]
            refine wpAnyH_take (i := 7) (v := ?_) (by simp only [List.getElem?_toArray, List.getElem?_cons_succ, List.getElem?_cons_zero]; rfl) (by kernel_rfl) (by kernel_rfl) (by kernel_rfl) (by intro _ _ _ h; exact h) (Or.inl ⟨by rfl, ?_⟩) hHeld ?_
            rotate_left 1
            · intro wq hSw
              try dsimp only at hSw
              go_simp
              try (with_reducible rfl)
            try simp only [Act.put, List.setIfInBounds_toArray, List.set_cons_zero, List.set_cons_succ]
            refine wpAnyH_take (i := 8) (v := ?_) (by simp only [List.getElem?_toArray, List.getElem?_cons_succ, List.getElem?_cons_zero]; rfl) (by kernel_rfl) (by kernel_rfl) (by kernel_rfl) (by intro _ _ _ h; exact h) (Or.inl ⟨by rfl, ?_⟩) hHeld ?_
            rotate_left 1
            · intro wq hSw
              try dsimp only at hSw
              go_simp
              try (with_reducible rfl)
            try simp only [Act.put, List.setIfInBounds_toArray, List.set_cons_zero, List.set_cons_succ]
            refine wpAnyH_ready (rs := [9]) (by kernel_rfl) (by simp) ?_
            refine AllReadyH.cons (by simp only [List.getElem?_toArray, List.getElem?_cons_succ, List.getElem?_cons_zero]; rfl) (fun K hK => ?_) AllReadyH.nil
            obtain ⟨v0, v1, v2, v3, v4, f0, f1, f2, f3, f4⟩ := V7.five
            go_simp
            have V9 : Blk (((((w7.setCell ⟨b4, 0, none⟩ (.int .i64 (xboth x y).la)).setCell ⟨b4, 1, none⟩ (.int .i64 (xboth x y).n)).setCell ⟨b4, 2, none⟩ (.int .i64 (xboth x y).k)).setCell ⟨b4, 3, none⟩ (.int .i64 (xboth x y).g)).setCell ⟨b4, 4, none⟩ (.slice A7 m7 c7)) b4 #[.int .i64 (xboth x y).la, .int .i64 (xboth x y).n, .int .i64 (xboth x y).k, .int .i64 (xboth x y).g, .slice A7 m7 c7] 38 := ((((V7.set 0 _).set 1 _).set 2 _).set 3 _).set 4 _
            have S9 : Sl (((((w7.setCell ⟨b4, 0, none⟩ (.int .i64 (xboth x y).la)).setCell ⟨b4, 1, none⟩ (.int .i64 (xboth x y).n)).setCell ⟨b4, 2, none⟩ (.int .i64 (xboth x y).k)).setCell ⟨b4, 3, none⟩ (.int .i64 (xboth x y).g)).setCell ⟨b4, 4, none⟩ (.slice A7 m7 c7)) A7 m7 c7 ((xboth x y).l.map v8) := ((((S7.far (fun ad e => (hA7 ad e).2) _).far (fun ad e => (hA7 ad e).2) _).far (fun ad e => (hA7 ad e).2) _).far (fun ad e => (hA7 ad e).2) _).far (fun ad e => (hA7 ad e).2) _
            have bd9 : Below W2.heap.size W2 (((((w7.setCell ⟨b4, 0, none⟩ (.int .i64 (xboth x y).la)).setCell ⟨b4, 1, none⟩ (.int .i64 (xboth x y).n)).setCell ⟨b4, 2, none⟩ (.int .i64 (xboth x y).k)).setCell ⟨b4, 3, none⟩ (.int .i64 (xboth x y).g)).setCell ⟨b4, 4, none⟩ (.slice A7 m7 c7)) := ((((bd7.setCell (p := ⟨b4, 0, none⟩) hb4 _).setCell (p := ⟨b4, 1, none⟩) hb4 _).setCell (p := ⟨b4, 2, none⟩) hb4 _).setCell (p := ⟨b4, 3, none⟩) hb4 _).setCell (p := ⟨b4, 4, none⟩) hb4 _
            clear v0 v1 v2 v3 v4 f0 f1 f2 f3 f4 V7 S7 bd7
            generalize (((((w7.setCell ⟨b4, 0, none⟩ (.int .i64 (xboth x y).la)).setCell ⟨b4, 1, none⟩ (.int .i64 (xboth x y).n)).setCell ⟨b4, 2, none⟩ (.int .i64 (xboth x y).k)).setCell ⟨b4, 3, none⟩ (.int .i64 (xboth x y).g)).setCell ⟨b4, 4, none⟩ (.slice A7 m7 c7)) = w9 at *
            refine hK.out _ _ (bd9) (fun hHeld => ?_)
            clear hK K
            try dsimp only at hHeld
            try simp only [Act.put, List.setIfInBounds_toArray, List.set_cons_zero, List.set_cons_succ]
            refine wpAnyH_done (by kernel_rfl) ?_ _
            go_wp2
            go_roundg gq
            case measure => omega
            case rel => exact ⟨j1, xboth x y, A7, m7, c7, by have := hj1.out; omega, by have := hj1.out; omega, hjn1, by first | rfl | (simp; done), hst2, hbla, ⟨hm7.out.symm, S9, fun h ad e => .inr (hA7 ad e).1⟩, V9, bd9⟩
        · have hst2 := hst.out.trans (congrArg (pre ++ ·) (jgo_end (xs := xs) (j := j1) (by have := HN.out; omega)))
          have hjn2 : n ≤ j1 := by omega
          clear hst
          go_wp2_with fail
          refine wp_region_held_drew (S := fun w' => Below W2.heap.size W2 w' ∧ Blk w' b4 #[.int .i64 x.la, .int .i64 x.n, .int .i64 x.k, .int .i64 x.g, .slice Ai mi ci] 38) (by kernel_rfl) ⟨bb.drew, V.drew⟩ (fun hHeld => ?_)
          try dsimp only at hHeld
          have Hd : HandOn Fd W2 wr.drew x Ai mi ci := ⟨H.1, H.2.1.drew, H.2.2⟩
          generalize wr.drew = wd at *
          try simp only [Act.put, List.setIfInBounds_toArray, List.set_cons_zero, List.set_cons_succ]
          refine wpAnyH_take (i := 0) (v := ?_) (by simp only [List.getElem?_toArray, List.getElem?_cons_zero]; rfl) (by kernel_rfl) (by kernel_rfl) (by kernel_rfl) (by intro _ _ _ h; exact h) (Or.inl ⟨by rfl, ?_⟩) hHeld ?_
          rotate_left 1
          · intro wq hSw
            try dsimp only at hSw
            go_simp
            try (with_reducible rfl)
          try simp only [Act.put, List.setIfInBounds_toArray, List.set_cons_zero, List.set_cons_succ]
          refine wpAnyH_take (i := 1) (v := ?_) (by simp only [List.getElem?_toArray, List.getElem?_cons_succ, List.getElem?_cons_zero]; rfl) (by kernel_rfl) (by kernel_rfl) (by kernel_rfl) (by intro _ _ _ h; exact h) (Or.inl ⟨by rfl, ?_⟩) hHeld ?_
          rotate_left 1
          · intro wq hSw
            try dsimp only at hSw
            go_simp
            try (with_reducible rfl)
          try simp only [Act.put, List.setIfInBounds_toArray, List.set_cons_zero, List.set_cons_succ]
          refine wpAnyH_take (i := 2) (v := ?_) (by simp only [List.getElem?_toArray, List.getElem?_cons_succ, List.getElem?_cons_zero]; rfl) (by kernel_rfl) (by kernel_rfl) (by kernel_rfl) (by intro _ _ _ h; exact h) (Or.inl ⟨by rfl, ?_⟩) hHeld ?_
          rotate_left 1
          · intro wq hSw
            try dsimp only at hSw
            have q := (hSw.1.cell (p := ⟨bl, 0, none⟩) hbs).trans hbl
            go_simp
            try (with_reducible rfl)
          try simp only [Act.put, List.setIfInBounds_toArray, List.set_cons_zero, List.set_cons_succ]
          refine wpAnyH_take (i := 3) (v := ?_) (by simp only [List.getElem?_toArray, List.getElem?_cons_succ, List.getElem?_cons_zero]; rfl) (by kernel_rfl) (by kernel_rfl) (by kernel_rfl) (by intro _ _ _ h; exact h) (Or.inl ⟨by rfl, ?_⟩) hHeld ?_
          rotate_left 1
          · intro wq hSw
            try dsimp only at hSw
            go_simp
            try (with_reducible rfl)
          try simp only [Act.put, List.setIfInBounds_toArray, List.set_cons_zero, List.set_cons_succ]
          refine wpAnyH_take (i := 4) (v := (.bool false)) (by simp only [List.getElem?_toArray, List.getElem?_cons_succ, List.getElem?_cons_zero]; rfl) (by kernel_rfl) (by kernel_rfl) (by kernel_rfl) (by intro _ _ _ h; exact h) (Or.inl ⟨by rfl, ?_⟩) hHeld ?_
          · intro wq hSw
            try dsimp only at hSw
            go_simp
            try omega
          try simp only [Act.put, List.setIfInBounds_toArray, List.set_cons_zero, List.set_cons_succ]
          refine wpAnyH_take (i := 5) (v := ?_) (by simp only [List.getElem?_toArray, List.getElem?_cons_succ, List.getElem?_cons_zero]; rfl) (by kernel_rfl) (by kernel_rfl) (by kernel_rfl) (by intro _ _ _ h; exact h) (Or.inl ⟨by rfl, ?_⟩) hHeld ?_
          rotate_left 1
          · intro wq hSw
            try dsimp only at hSw
            go_simp
            try (with_reducible rfl)
          try simp only [Act.put, List.setIfInBounds_toArray, List.set_cons_zero, List.set_cons_succ]
          refine wpAnyH_take (i := 6) (v := undef) (by simp only [List.getElem?_toArray, List.getElem?_cons_succ, List.getElem?_cons_zero]; rfl) (by kernel_rfl) (by kernel_rfl) (by kernel_rfl) (by intro _ _ _ h; exact h) (Or.inr ⟨by rfl, rfl⟩) hHeld ?_
          try simp only [Act.put, List.setIfInBounds_toArray, List.set_cons_zero, List.set_cons_succ]
          refine wpAnyH_take (i := 7) (v := undef) (by simp only [List.getElem?_toArray, List.getElem?_cons_succ, List.getElem?_cons_zero]; rfl) (by kernel_rfl) (by kernel_rfl) (by kernel_rfl) (by intro _ _ _ h; exact h) (Or.inr ⟨by rfl, rfl⟩) hHeld ?_
          try simp only [Act.put, List.setIfInBounds_toArray, List.set_cons_zero, List.set_cons_succ]
          refine wpAnyH_take (i := 8) (v := undef) (by simp only [List.getElem?_toArray, List.getElem?_cons_succ, List.getElem?_cons_zero]; rfl) (by kernel_rfl) (by kernel_rfl) (by kernel_rfl) (by intro _ _ _ h; exact h) (Or.inr ⟨by rfl, rfl⟩) hHeld ?_
          try simp only [Act.put, List.setIfInBounds_toArray, List.set_cons_zero, List.set_cons_succ]
          refine wpAnyH_take (i := 9) (v := undef) (by simp only [List.getElem?_toArray, List.getElem?_cons_succ, List.getElem?_cons_zero]; rfl) (by kernel_rfl) (by kernel_rfl) (by kernel_rfl) (by intro _ _ _ h; exact h) (Or.inr ⟨by rfl, rfl⟩) hHeld ?_
          try simp only [Act.put, List.setIfInBounds_toArray, List.set_cons_zero, List.set_cons_succ]
          refine wpAnyH_take (i := 10) (v := undef) (by simp only [List.getElem?_toArray, List.getElem?_cons_succ, List.getElem?_cons_zero]; rfl) (by kernel_rfl) (by kernel_rfl) (by kernel_rfl) (by intro _ _ _ h; exact h) (Or.inr ⟨by rfl, rfl⟩) hHeld ?_
          try simp only [Act.put, List.setIfInBounds_toArray, List.set_cons_zero, List.set_cons_succ]
          refine wpAnyH_take (i := 11) (v := undef) (by simp only [List.getElem?_toArray, List.getElem?_cons_succ, List.getElem?_cons_zero]; rfl) (by kernel_rfl) (by kernel_rfl) (by kernel_rfl) (by intro _ _ _ h; exact h) (Or.inr ⟨by rfl, rfl⟩) hHeld ?_
          try simp only [Act.put, List.setIfInBounds_toArray, List.set_cons_zero, List.set_cons_succ]
          refine wpAnyH_take (i := 12) (v := undef) (by simp only [List.getElem?_toArray, List.getElem?_cons_succ, List.getElem?_cons_zero]; rfl) (by kernel_rfl) (by kernel_rfl) (by kernel_rfl) (by intro _ _ _ h; exact h) (Or.inr ⟨by rfl, rfl⟩) hHeld ?_
          try simp only [Act.put, List.setIfInBounds_toArray, List.set_cons_zero, List.set_cons_succ]
          refine wpAnyH_take (i := 13) (v := ?_) (by simp only [List.getElem?_toArray, List.getElem?_cons_succ, List.getElem?_cons_zero]; rfl) (by kernel_rfl) (by kernel_rfl) (by kernel_rfl) (by intro _ _ _ h; exact h) (Or.inl ⟨by rfl, ?_⟩) hHeld ?_
          rotate_left 1
          · intro wq hSw
            try dsimp only at hSw
            go_simp
            try (with_reducible rfl)
          try simp only [Act.put, List.setIfInBounds_toArray, List.set_cons_zero, List.set_cons_succ]
          refine wpAnyH_done (by kernel_rfl) ?_ _
          clear bb V H
          obtain ⟨bb, V⟩ := hHeld
          go_upto_region 7 with (fail)
          obtain ⟨v0, v1, v2, v3, v4, _⟩ := V.five
          obtain ⟨fn, tmps, assign, body, hy, hR3⟩ := hY pre x Ai mi ci W2 wd hJ2 bb Hd (by have := hpl.out; omega)
          replace hst2 := Lib.hid (hst2.trans (List.append_cons pre x _))
          have hpl2 : Hid ((pre ++ [x]).length ≤ j1) := by (have := hpl.out; have := hj1.out; show (pre ++ [x]).length ≤ j1; rw [List.length_append]; simp; omega)
          refine (wpIn_wide (n := m)).1 ?_
          gi_wp2
          refine ⟨fun _ => by omega, hR3.mono ?_⟩
          rintro e W3 ⟨rfl, hJ3⟩
          gi_wp2
          go_wp2
          go_roundg (n - j1)
          case measure => have := hk.out; have := hj1.out; omega
          case rel => exact ⟨j1, pre ++ [x], W3, by have := hj1.out; omega, by first | rfl | (simp; done), hst2, hpl2, hJ3, Below.refl _ _⟩
    · obtain rfl : k = n := by omega
      have hfin : joinL xs = pre := by
        have := hpre.out
        rw [List.drop_of_length_le (by have := HN.out; omega)] at this
        rw [this]
        exact List.append_nil _
      rw [← hfin] at hJ2
      replace hfin := Lib.hid hfin
      go_wp2
      go_end0
      exact ⟨⟨_, rfl⟩, W2, hJ2, bb⟩
end Go.Proofs.Ytepaojegcaapfaa
