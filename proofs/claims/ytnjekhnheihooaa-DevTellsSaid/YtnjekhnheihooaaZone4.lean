/-
  The contract of package zone's Crash.
-/
import Derived.Test.YtnjekhnheihooaaZone3
import Derived.Deep.DrawnRows
import Derived.Deep.RegionHeld3
import Derived.Test.YtnjekhnheihooaaDrawn
namespace Go.Proofs.Ytnjekhnheihooaa
open Go.RowKit Go.Wag
set_option linter.unusedVariables false

/-- How many bytes a crash keeps; the zone behind it. -/
def crK (n la keep : Int) : Int := min (max keep la) n
def crSt (st rs n la size keep : Int) : Int := if chkF st rs n la size then (if crK n la keep = 0 then 0 else if st = 3 then 3 else 2) else st
def crDa (st rs n la size keep : Int) (l : List UInt8) : List UInt8 := if chkF st rs n la size then l.take (crK n la keep).toNat else l
def crLa (st rs n la size keep : Int) : Int := if chkF st rs n la size then crK n la keep else la

set_option maxHeartbeats 1600000 in
theorem zCrash_any (st rs la size keep : Int) (A : Option Addr) (n c : Nat) (l : List UInt8) (w : World) (h : Sl w A n c (l.map v8)) (hn : n ≤ 10000000000000) (hk0 : -9223372036854775808 ≤ keep) (hk1 : keep < 9223372036854775808) :
    Calls Try.prog 32 #[.agg #[.int .i64 st, .int .i64 rs, .slice A n c, .int .i64 la], .int .i64 size, .int .i64 keep] w (ZoneNew w (crSt st rs n la size keep) rs (crDa st rs n la size keep l) (crLa st rs n la size keep)) := by
  have b1 := ((Below.refl w.heap.size w).alloc (Nat.le_refl _) (.cells #[.int .i64 st, .int .i64 rs, .slice A n c, .int .i64 la] 46)).alloc (by simp) (.cells #[.int .i64 0, .int .i64 0, .slice none 0 0, .int .i64 0] 46)
  have B0 := (Blk.new w #[.int .i64 st, .int .i64 rs, .slice A n c, .int .i64 la] 46).alloc (.cells #[.int .i64 0, .int .i64 0, .slice none 0 0, .int .i64 0] 46)
  have B1 := (Blk.new (w.alloc (.cells #[.int .i64 st, .int .i64 rs, .slice A n c, .int .i64 la] 46)) #[.int .i64 0, .int .i64 0, .slice none 0 0, .int .i64 0] 46)
  rw [World.size_alloc] at B1
  cases hc : chkF st rs n la size
  · go_enter Try.func32, Try.ntmps32
    go_wp2_with fail
    generalize hW1 : (w.alloc (.cells #[.int .i64 st, .int .i64 rs, .slice A n c, .int .i64 la] 46)).alloc (.cells #[.int .i64 0, .int .i64 0, .slice none 0 0, .int .i64 0] 46) = W1 at *
    have hs1 : W1.heap.size = w.heap.size + 2 := by rw [← hW1]; simp
    refine (zCheck_any st rs la size A n c W1).mono ?_
    rintro e w2 ⟨rfl, b2⟩
    simp only [hc]
    have C0 := B0.under b2
    have C1 := B1.under b2
    obtain ⟨c0, c1, c2', c3, _⟩ := C0.four
    have b3 := b1.trans (b2.mono (by omega))
    have hs2 := b2.size
    go_wp2_with fail
    refine (zcopied_any st rs la A n c l w2 (h.below b3) hn).mono ?_
    rintro e w3 ⟨A3, n3, c3', rfl, N3, b4⟩
    have D1 := C1.under b4
    obtain ⟨g0, g1, g2, g3, f0, f1, f2, f3⟩ := D1.four
    go_wp2
    try simp only [Exit.inBlock, Exit.then]
    rw [show crSt st rs n la size keep = st by simp [crSt, hc], show crDa st rs n la size keep l = l by simp [crDa, hc], show crLa st rs n la size keep = la by simp [crLa, hc]]
    exact ret_zone rfl rfl D1 N3 (by omega) (by omega) (b3.trans (b4.mono (by omega)))
  · have hb := chk_all hc
    obtain ⟨m, hm⟩ : ∃ m : Int, (if keep < la then la else keep) = m := ⟨_, rfl⟩
    obtain ⟨k, hk⟩ : ∃ k : Nat, min m (n : Int) = k := ⟨(min m n).toNat, by
      rw [Int.toNat_of_nonneg]
      have : la ≤ m := by rw [← hm]; split <;> omega
      omega⟩
    have hkk : crK n la keep = (k : Int) := by
      unfold crK
      rw [← hk, ← hm]
      congr 1
      split <;> omega
    have hm1 : (if m ≤ (n : Int) then m else (n : Int)) = k := by rw [← hk]; split <;> omega
    have hm2 : (if (n : Int) < m then (n : Int) else m) = k := by rw [← hk]; split <;> omega
    have hkn : k ≤ n := by omega
    have hkc : k ≤ c := by have := h.cap; omega
    go_enter Try.func32, Try.ntmps32
    go_wp2_with fail
    generalize hW1 : (w.alloc (.cells #[.int .i64 st, .int .i64 rs, .slice A n c, .int .i64 la] 46)).alloc (.cells #[.int .i64 0, .int .i64 0, .slice none 0 0, .int .i64 0] 46) = W1 at *
    have hs1 : W1.heap.size = w.heap.size + 2 := by rw [← hW1]; simp
    refine (zCheck_any st rs la size A n c W1).mono ?_
    rintro e w2 ⟨rfl, b2⟩
    simp only [hc]
    have C0 := B0.under b2
    have C1 := B1.under b2
    obtain ⟨c0, c1, c2', c3, _⟩ := C0.four
    have b3 := b1.trans (b2.mono (by omega))
    have hs2 := b2.size
    go_wp2_with fail
    -- THE REGION
    refine wp_region_held_drew (S := fun w' => Below w2.heap.size w2 w') (by kernel_rfl) (Below.refl _ _).drew (fun hHeld => ?_)
    replace C0 := C0.drew
    replace C1 := C1.drew
    replace b3 := b3.drew
    have hs3 : W1.heap.size ≤ w2.drew.heap.size := hs2
    have Q2 : Sl w2.drew A k c ((l.take k).map v8) := by rw [List.map_take]; exact (h.below b3).upto hkn
    clear hs2 c0 c1 c2' c3
    generalize w2.drew = w3 at *
    refine wpAnyH_stronger (S' := fun w' => Below w3.heap.size w3 w') (fun w' h => Below.trans hHeld (h.mono (Below.size hHeld))) _ _ _ _ ?_
    replace hHeld : Below w3.heap.size w3 w3 := Below.refl _ _
    try simp only [Act.put, List.setIfInBounds_toArray, List.set_cons_zero, List.set_cons_succ]
    refine wpAnyH_take (i := 0) (v := ?_) (by simp only [List.getElem?_toArray, List.getElem?_cons_zero]; rfl) (by kernel_rfl) (by kernel_rfl) (by kernel_rfl) (by intro _ _ _ h; exact h) (Or.inl ⟨by rfl, ?_⟩) hHeld ?_
    rotate_left 1
    · intro wq hSw
      try dsimp only at hSw
      go_simp
      try (with_reducible rfl)
    try simp only [Act.put, List.setIfInBounds_toArray, List.set_cons_zero, List.set_cons_succ]
    refine wpAnyH_take (i := 1) (v := ?_) (by simp only [List.getElem?_toArray, List.getElem?_cons_succ, List.getElem?_cons_zero]; rfl) (by kernel_rfl) (by kernel_rfl) (by kernel_rfl) (by intro _ _ _ h; exact h) (Or.inl ⟨by rfl, ?_⟩) hHeld ?_
    rotate_left 1
    · intro wq hSw
      try dsimp only at hSw
      obtain ⟨c0, c1, c2', c3, _⟩ := (C0.under hSw).four
      go_simp
      try (with_reducible rfl)
    try simp only [Act.put, List.setIfInBounds_toArray, List.set_cons_zero, List.set_cons_succ]
    refine wpAnyH_take (i := 2) (v := ?_) (by simp only [List.getElem?_toArray, List.getElem?_cons_succ, List.getElem?_cons_zero]; rfl) (by kernel_rfl) (by kernel_rfl) (by kernel_rfl) (by intro _ _ _ h; exact h) (Or.inl ⟨by rfl, ?_⟩) hHeld ?_
    rotate_left 1
    · intro wq hSw
      try dsimp only at hSw
      go_simp
      try (with_reducible rfl)
    try simp only [Act.put, List.setIfInBounds_toArray, List.set_cons_zero, List.set_cons_succ]
    refine wpAnyH_take (i := 3) (v := ?_) (by simp only [List.getElem?_toArray, List.getElem?_cons_succ, List.getElem?_cons_zero]; rfl) (by kernel_rfl) (by kernel_rfl) (by kernel_rfl) (by intro _ _ _ h; exact h) (Or.inl ⟨by rfl, ?_⟩) hHeld ?_
    rotate_left 1
    · intro wq hSw
      try dsimp only at hSw
      obtain ⟨c0, c1, c2', c3, _⟩ := (C0.under hSw).four
      go_simp
      try (with_reducible rfl)
    try simp only [Act.put, List.setIfInBounds_toArray, List.set_cons_zero, List.set_cons_succ]
    refine wpAnyH_take (i := 4) (v := ?_) (by simp only [List.getElem?_toArray, List.getElem?_cons_succ, List.getElem?_cons_zero]; rfl) (by kernel_rfl) (by kernel_rfl) (by kernel_rfl) (by intro _ _ _ h; exact h) (Or.inl ⟨by rfl, ?_⟩) hHeld ?_
    rotate_left 1
    · intro wq hSw
      try dsimp only at hSw
      go_simp
      try (with_reducible rfl)
    try simp only [Act.put, List.setIfInBounds_toArray, List.set_cons_zero, List.set_cons_succ]
    refine wpAnyH_take (i := 5) (v := ?_) (by simp only [List.getElem?_toArray, List.getElem?_cons_succ, List.getElem?_cons_zero]; rfl) (by kernel_rfl) (by kernel_rfl) (by kernel_rfl) (by intro _ _ _ h; exact h) (Or.inl ⟨by rfl, ?_⟩) hHeld ?_
    rotate_left 1
    · intro wq hSw
      try dsimp only at hSw
      obtain ⟨c0, c1, c2', c3, _⟩ := (C0.under hSw).four
      go_simp
      try (with_reducible rfl)
    try simp only [Act.put, List.setIfInBounds_toArray, List.set_cons_zero, List.set_cons_succ]
    refine wpAnyH_take (i := 6) (v := ?_) (by simp only [List.getElem?_toArray, List.getElem?_cons_succ, List.getElem?_cons_zero]; rfl) (by kernel_rfl) (by kernel_rfl) (by kernel_rfl) (by intro _ _ _ h; exact h) (Or.inl ⟨by rfl, ?_⟩) hHeld ?_
    rotate_left 1
    · intro wq hSw
      try dsimp only at hSw
      go_simp
      try (with_reducible rfl)
    try simp only [Act.put, List.setIfInBounds_toArray, List.set_cons_zero, List.set_cons_succ]
    refine wpAnyH_take (i := 7) (v := ?_) (by simp only [List.getElem?_toArray, List.getElem?_cons_succ, List.getElem?_cons_zero]; rfl) (by kernel_rfl) (by kernel_rfl) (by kernel_rfl) (by intro _ _ _ h; exact h) (Or.inl ⟨by rfl, ?_⟩) hHeld ?_
    rotate_left 1
    · intro wq hSw
      try dsimp only at hSw
      go_simp
      try (with_reducible rfl)
    try simp only [Act.put, List.setIfInBounds_toArray, List.set_cons_zero, List.set_cons_succ]
    refine wpAnyH_take (i := 8) (v := ?_) (by simp only [List.getElem?_toArray, List.getElem?_cons_succ, List.getElem?_cons_zero]; rfl) (by kernel_rfl) (by kernel_rfl) (by kernel_rfl) (by intro _ _ _ h; exact h) (Or.inl ⟨by rfl, ?_⟩) hHeld ?_
    rotate_left 1
    · intro wq hSw
      try dsimp only at hSw
      go_simp
      try (with_reducible rfl)
    try simp only [Act.put, List.setIfInBounds_toArray, List.set_cons_zero, List.set_cons_succ]
    refine wpAnyH_take (i := 9) (v := ?_) (by simp only [List.getElem?_toArray, List.getElem?_cons_succ, List.getElem?_cons_zero]; rfl) (by kernel_rfl) (by kernel_rfl) (by kernel_rfl) (by intro _ _ _ h; exact h) (Or.inl ⟨by rfl, ?_⟩) hHeld ?_
    rotate_left 1
    · intro wq hSw
      try dsimp only at hSw
      go_simp
      try (with_reducible rfl)
    try simp only [Act.put, List.setIfInBounds_toArray, List.set_cons_zero, List.set_cons_succ]
    refine wpAnyH_ready (rs := [10, 11]) (by kernel_rfl) (by simp) ?_
    refine AllReadyH.cons (by simp only [List.getElem?_toArray, List.getElem?_cons_succ, List.getElem?_cons_zero]; rfl) (fun K hK => ?_) (AllReadyH.cons (by simp only [List.getElem?_toArray, List.getElem?_cons_succ, List.getElem?_cons_zero]; rfl) (fun K hK => ?_) AllReadyH.nil)
    · go_simp
      refine (zcopied_any st rs k A k c (l.take k) w3 Q2 (by omega)).mono ?_
      rintro e w5 ⟨A5, n5, c5, rfl, N5, b5⟩
      go_wp2_with fail
      refine hK.out _ _ b5 (fun hHeld => ?_)
      clear hK K
      try simp only [Act.put, List.setIfInBounds_toArray, List.set_cons_zero, List.set_cons_succ]
      refine wpAnyH_ready (rs := [11]) (by kernel_rfl) (by simp) ?_
      refine AllReadyH.cons (by simp only [List.getElem?_toArray, List.getElem?_cons_succ, List.getElem?_cons_zero]; rfl) (fun K hK => ?_) AllReadyH.nil
      go_simp
      refine hK.out _ _ (b5.alloc b5.size _) (fun hHeld => ?_)
      clear hK K
      try simp only [Act.put, List.setIfInBounds_toArray, List.set_cons_zero, List.set_cons_succ]
      refine wpAnyH_ready (rs := [12]) (by kernel_rfl) (by simp) ?_
      refine AllReadyH.cons (by simp only [List.getElem?_toArray, List.getElem?_cons_succ, List.getElem?_cons_zero]; rfl) (fun K hK => ?_) AllReadyH.nil
      go_simp
      refine hK.out _ _ (b5.alloc b5.size _) (fun hHeld => ?_)
      clear hK K hHeld
      try simp only [Act.put, List.setIfInBounds_toArray, List.set_cons_zero, List.set_cons_succ]
      refine wpAnyH_done (by kernel_rfl) ?_ _
      have hs5 := b5.size
      have V := Blk.new w5 #[.int .i64 st, .int .i64 rs, .slice A5 n5 c5, .int .i64 (k : Int)] 46
      have G0 := (C0.under b5).alloc (.cells #[.int .i64 st, .int .i64 rs, .slice A5 n5 c5, .int .i64 (k : Int)] 46)
      have G1 := (C1.under b5).alloc (.cells #[.int .i64 st, .int .i64 rs, .slice A5 n5 c5, .int .i64 (k : Int)] 46)
      have O := World.ownsRow.alloc N5 (.cells #[.int .i64 st, .int .i64 rs, .slice A5 n5 c5, .int .i64 (k : Int)] 46)
      have hA : ∀ ad, A5 = some ad → ad.block ≠ w5.heap.size := fun ad hA e => by
        subst hA
        have := (World.ownsRow.lt N5 ad.block rfl).2
        omega
      have b6 := (b3.trans (b5.mono (by omega))).alloc (by omega) (.cells #[.int .i64 st, .int .i64 rs, .slice A5 n5 c5, .int .i64 (k : Int)] 46)
      obtain ⟨kv, hkv⟩ : ∃ kv, w5.heap.size = kv := ⟨_, rfl⟩
      have hkv2 : w.heap.size + 2 ≤ kv := by omega
      rw [hkv] at V hA
      simp only [hkv]
      clear hkv b5 N5
      generalize w5.alloc (.cells #[.int .i64 st, .int .i64 rs, .slice A5 n5 c5, .int .i64 (k : Int)] 46) = w6 at *
      obtain ⟨g0, g1, g2, g3, f0, f1, f2, f3⟩ := G1.four
      obtain ⟨p0, p1, p2, p3, _⟩ := G0.four
      obtain ⟨v0, v1, v2, v3, y0, y1, y2, y3⟩ := V.four
      have hD : crDa st rs n la size keep l = l.take k := by simp [crDa, hc, hkk]
      have hL : crLa st rs n la size keep = (k : Int) := by simp [crLa, hc, hkk]
      have hne1 : ¬ w.heap.size + 1 = kv := by omega
      have hne2 : ¬ kv = w.heap.size + 1 := by omega
      have hne3 : ¬ w.heap.size = kv := by omega
      by_cases hk0 : (k : Int) = 0
      · have hS : Hid (crSt st rs n la size keep = 0) := by show crSt st rs n la size keep = 0; simp [crSt, hc, hkk, show k = 0 by omega]
        go_wp2
        try simp only [Exit.inBlock, Exit.then]
        rw [hS.out, hD, hL, hk0]
        exact ret_zone rfl rfl (G1.far (by simp; omega) _) (own_far O hA _) (by omega) (by omega) (b6.setCell (by simp; omega) _)
      · by_cases hs3' : st = 3
        · have hS : Hid (crSt st rs n la size keep = 3) := by show crSt st rs n la size keep = 3; simp [crSt, hkk, hs3', show ¬ k = 0 by omega]
          go_wp2
          try simp only [Exit.inBlock, Exit.then]
          rw [hS.out, hD, hL]
          exact ret_zone rfl rfl G1 O (by omega) (by omega) b6
        · have hS : Hid (crSt st rs n la size keep = 2) := by show crSt st rs n la size keep = 2; simp [crSt, hc, hkk, hs3', show ¬ k = 0 by omega]
          go_wp2
          try simp only [Exit.inBlock, Exit.then]
          rw [hS.out, hD, hL]
          exact ret_zone rfl rfl (G1.far (by simp; omega) _) (own_far O hA _) (by omega) (by omega) (b6.setCell (by simp; omega) _)
    · go_simp
      refine hK.out _ _ (hHeld.alloc (Nat.le_refl _) _) (fun hHeld => ?_)
      clear hK K
      try simp only [Act.put, List.setIfInBounds_toArray, List.set_cons_zero, List.set_cons_succ]
      refine wpAnyH_ready (rs := [10]) (by kernel_rfl) (by simp) ?_
      refine AllReadyH.cons (by simp only [List.getElem?_toArray, List.getElem?_cons_succ, List.getElem?_cons_zero]; rfl) (fun K hK => ?_) AllReadyH.nil
      go_simp
      have L0 := (C0.alloc (.cells #[.int .i64 0, .int .i64 0, .slice none 0 0, .int .i64 0] 46))
      have L1 := (C1.alloc (.cells #[.int .i64 0, .int .i64 0, .slice none 0 0, .int .i64 0] 46))
      have LV := Blk.new w3 #[.int .i64 0, .int .i64 0, .slice none 0 0, .int .i64 0] 46
      have LQ := Q2.alloc (.cells #[.int .i64 0, .int .i64 0, .slice none 0 0, .int .i64 0] 46)
      have Lb := b3.alloc (by omega) (.cells #[.int .i64 0, .int .i64 0, .slice none 0 0, .int .i64 0] 46)
      have Ls : w3.heap.size + 1 = (w3.alloc (.cells #[.int .i64 0, .int .i64 0, .slice none 0 0, .int .i64 0] 46)).heap.size := by simp
      generalize (w3.alloc (.cells #[.int .i64 0, .int .i64 0, .slice none 0 0, .int .i64 0] 46)) = w4 at *
      refine (zcopied_any st rs k A k c (l.take k) w4 LQ (by omega)).mono ?_
      rintro e w5 ⟨A5, n5, c5, rfl, N5, b5⟩
      go_wp2_with fail
      refine hK.out _ _ (hHeld.trans (b5.mono (by omega))) (fun hHeld => ?_)
      clear hK K
      obtain ⟨z0, z1, z2, z3, i0, i1, i2, i3⟩ := (LV.under b5).four
      try simp only [Act.put, List.setIfInBounds_toArray, List.set_cons_zero, List.set_cons_succ]
      refine wpAnyH_ready (rs := [12]) (by kernel_rfl) (by simp) ?_
      refine AllReadyH.cons (by simp only [List.getElem?_toArray, List.getElem?_cons_succ, List.getElem?_cons_zero]; rfl) (fun K hK => ?_) AllReadyH.nil
      go_simp
      refine hK.out _ _ ((((hHeld.setCell (Nat.le_refl _) _).setCell (Nat.le_refl _) _).setCell (Nat.le_refl _) _).setCell (Nat.le_refl _) _) (fun hHeld => ?_)
      clear hK K hHeld
      try simp only [Act.put, List.setIfInBounds_toArray, List.set_cons_zero, List.set_cons_succ]
      refine wpAnyH_done (by kernel_rfl) ?_ _
      have hs5 := b5.size
      have hA : ∀ ad, A5 = some ad → ad.block ≠ w3.heap.size := fun ad hA e => by
        subst hA
        have := (World.ownsRow.lt N5 ad.block rfl).1
        omega
      have V := ((((LV.under b5).set 0 (.int .i64 st)).set 1 (.int .i64 rs)).set 2 (.slice A5 n5 c5)).set 3 (.int .i64 (k : Int))
      simp only [List.setIfInBounds_toArray, List.set_cons_zero, List.set_cons_succ] at V
      have G0 := ((((L0.under b5).far (a := ⟨w3.heap.size, 0, none⟩) (by simp; omega) (.int .i64 st)).far (a := ⟨w3.heap.size, 1, none⟩) (by simp; omega) (.int .i64 rs)).far (a := ⟨w3.heap.size, 2, none⟩) (by simp; omega) (.slice A5 n5 c5)).far (a := ⟨w3.heap.size, 3, none⟩) (by simp; omega) (.int .i64 (k : Int))
      have G1 := ((((L1.under b5).far (a := ⟨w3.heap.size, 0, none⟩) (by simp; omega) (.int .i64 st)).far (a := ⟨w3.heap.size, 1, none⟩) (by simp; omega) (.int .i64 rs)).far (a := ⟨w3.heap.size, 2, none⟩) (by simp; omega) (.slice A5 n5 c5)).far (a := ⟨w3.heap.size, 3, none⟩) (by simp; omega) (.int .i64 (k : Int))
      have O := own_far (own_far (own_far (own_far N5 (a := ⟨w3.heap.size, 0, none⟩) hA (.int .i64 st)) (a := ⟨w3.heap.size, 1, none⟩) hA (.int .i64 rs)) (a := ⟨w3.heap.size, 2, none⟩) hA (.slice A5 n5 c5)) (a := ⟨w3.heap.size, 3, none⟩) hA (.int .i64 (k : Int))
      have b6 := ((((Lb.trans (b5.mono (by omega))).setCell (p := ⟨w3.heap.size, 0, none⟩) (by simp; omega) (.int .i64 st)).setCell (p := ⟨w3.heap.size, 1, none⟩) (by simp; omega) (.int .i64 rs)).setCell (p := ⟨w3.heap.size, 2, none⟩) (by simp; omega) (.slice A5 n5 c5)).setCell (p := ⟨w3.heap.size, 3, none⟩) (by simp; omega) (.int .i64 (k : Int))
      obtain ⟨kv, hkv⟩ : ∃ kv, w3.heap.size = kv := ⟨_, rfl⟩
      have hkv2 : w.heap.size + 2 ≤ kv := by omega
      rw [hkv] at V G0 G1 O hA b6
      have hs4 : w.heap.size + 2 ≤ w4.heap.size := by omega
      simp only [hkv]
      clear hkv b5 N5
      generalize (((w5.setCell ⟨kv, 0, none⟩ (.int .i64 st)).setCell ⟨kv, 1, none⟩ (.int .i64 rs)).setCell ⟨kv, 2, none⟩ (.slice A5 n5 c5)).setCell ⟨kv, 3, none⟩ (.int .i64 (k : Int)) = w6 at *
      obtain ⟨g0, g1, g2, g3, f0, f1, f2, f3⟩ := G1.four
      obtain ⟨p0, p1, p2, p3, _⟩ := G0.four
      obtain ⟨v0, v1, v2, v3, y0, y1, y2, y3⟩ := V.four
      have hD : crDa st rs n la size keep l = l.take k := by simp [crDa, hc, hkk]
      have hL : crLa st rs n la size keep = (k : Int) := by simp [crLa, hc, hkk]
      have hne1 : ¬ w.heap.size + 1 = kv := by omega
      have hne2 : ¬ kv = w.heap.size + 1 := by omega
      have hne3 : ¬ w.heap.size = kv := by omega
      by_cases hk0 : (k : Int) = 0
      · have hS : Hid (crSt st rs n la size keep = 0) := by show crSt st rs n la size keep = 0; simp [crSt, hc, hkk, show k = 0 by omega]
        go_wp2
        try simp only [Exit.inBlock, Exit.then]
        rw [hS.out, hD, hL, hk0]
        exact ret_zone rfl rfl (G1.far (by simp; omega) _) (own_far O hA _) (by omega) (by omega) (b6.setCell (by simp; omega) _)
      · by_cases hs3' : st = 3
        · have hS : Hid (crSt st rs n la size keep = 3) := by show crSt st rs n la size keep = 3; simp [crSt, hkk, hs3', show ¬ k = 0 by omega]
          go_wp2
          try simp only [Exit.inBlock, Exit.then]
          rw [hS.out, hD, hL]
          exact ret_zone rfl rfl G1 O (by omega) (by omega) b6
        · have hS : Hid (crSt st rs n la size keep = 2) := by show crSt st rs n la size keep = 2; simp [crSt, hc, hkk, hs3', show ¬ k = 0 by omega]
          go_wp2
          try simp only [Exit.inBlock, Exit.then]
          rw [hS.out, hD, hL]
          exact ret_zone rfl rfl (G1.far (by simp; omega) _) (own_far O hA _) (by omega) (by omega) (b6.setCell (by simp; omega) _)
end Go.Proofs.Ytnjekhnheihooaa
