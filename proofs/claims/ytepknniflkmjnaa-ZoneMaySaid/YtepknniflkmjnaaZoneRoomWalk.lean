/-
  ZoneRoom: the walk (written by gen_zoneroom.py).
-/
import Derived.Test.YtepknniflkmjnaaZoneAppendsWalk
namespace Go.Proofs.Ytepknniflkmjnaa
open Go.RowKit Go.Wag
set_option linter.unusedVariables false

theorem iwrap_small {x : Int} (h0 : -9223372036854775808 ≤ x) (h1 : x < 9223372036854775808) : IntKind.i64.wrap x = x := by
  rw [IntKind.wrap_i64]
  omega
theorem rep8 (k : Nat) : List.replicate k (Value.int .u8 0) = (List.replicate k (0 : UInt8)).map v8 := by
  rw [List.map_replicate]
  rfl
theorem room_nat {st rs n la size : Int} (hc : chkF st rs n la size = true) (hn : 0 ≤ n) : ∃ r : Nat, roomF st rs n la size = r ∧ (r : Int) ≤ size ∧ (st = 3 → r = 0) ∧ (st ≠ 3 → (r : Int) = size - n ∧ 0 < r) := by
  have h := chk_all hc
  rw [room_val hc]
  by_cases h3 : st = 3
  · refine ⟨0, by simp [h3], by omega, fun _ => rfl, fun h => absurd h3 h⟩
  · refine ⟨(size - n).toNat, ?_, by omega, fun h => absurd h h3, fun _ => ⟨by omega, by omega⟩⟩
    rw [if_pos h3]
    omega

set_option maxRecDepth 100000 in
set_option maxHeartbeats 4000000 in
theorem ZoneRoom_core (st rs la size : Int) (A : Option Addr) (n c : Nat) (l : List UInt8) (w : World) (s0 : Sl w A n c (l.map v8)) :
    Calls Try.prog 7 #[.agg #[.int .i64 st, .int .i64 rs, .slice A n c, .int .i64 la], .int .i64 size] w (AwakePost w) := by
  obtain ⟨i0, hi, hz0, hz1, hz2⟩ := info_parts i5
  have hl0 : Hid (l.length = n) := s0.len8
  have bb := Below.refl w.heap.size w
  go_enter Try.func7, Try.ntmps7
  replace s0 := s0.alloc (.cells #[.int .i64 st, .int .i64 rs, .slice A n c, .int .i64 la] 25)
  replace bb := bb.alloc bb.size (.cells #[.int .i64 st, .int .i64 rs, .slice A n c, .int .i64 la] 25)
  have Bz := Blk.new w #[.int .i64 st, .int .i64 rs, .slice A n c, .int .i64 la] 25
  go_wp2_with fail
  generalize (w.alloc (.cells #[.int .i64 st, .int .i64 rs, .slice A n c, .int .i64 la] 25)) = W1 at *
  have hC := awake3_any W1
  refine hC.mono ?_
  clear hC
  rintro e w1 ⟨rfl, ba⟩
  replace s0 := s0.below ba
  replace Bz := Bz.under ba
  replace bb := bb.trans (ba.mono bb.size)
  obtain ⟨Bzq0, Bzq1, Bzq2, Bzq3, Bzr0, Bzr1, Bzr2, Bzr3⟩ := Bz.four
  have Bzl := Bz.lt
  go_wp2_with fail
  clear Bzq0 Bzq1 Bzq2 Bzq3 Bzr0 Bzr1 Bzr2 Bzr3
  have hC := zCheck_any st rs la size A n c w1
  refine hC.mono ?_
  clear hC
  rintro e w2 ⟨rfl, bc⟩
  replace s0 := s0.below bc
  replace Bz := Bz.under bc
  replace bb := bb.trans (bc.mono bb.size)
  cases hc : chkF st rs n la size
  · go_wp2
    go_ret
    exact ⟨rfl, bb⟩
  have hb := chk_all hc
  by_cases hs : 300 < size
  · go_wp2
    go_ret
    exact ⟨rfl, bb⟩
  obtain ⟨r, hr, hr1, hr2, hr3⟩ := room_nat hc (by omega)
  replace hr2 : Hid (st = 3 → r = 0) := hr2
  replace hr3 : Hid (st ≠ 3 → (r : Int) = size - n ∧ 0 < r) := hr3
  replace hr : Hid (roomF st rs n la size = r) := hr
  have hnl : n ≤ 300 := by omega
  have hb' : Hid (1 ≤ size ∧ (n : Int) ≤ size ∧ 0 ≤ rs ∧ rs ≤ 1073741824 ∧ 0 ≤ la ∧ la ≤ n) := by show _ ∧ _; omega
  clear hb
  obtain ⟨Bzq0, Bzq1, Bzq2, Bzq3, Bzr0, Bzr1, Bzr2, Bzr3⟩ := Bz.four
  have Bzl := Bz.lt
  go_wp2_with fail
  clear Bzq0 Bzq1 Bzq2 Bzq3 Bzr0 Bzr1 Bzr2 Bzr3
  have hC := zRoom_at st rs la size A n c (r : Int) w2 hr.out
  refine hC.mono ?_
  clear hC
  rintro e w3 ⟨rfl, bd⟩
  replace s0 := s0.below bd
  replace Bz := Bz.under bd
  replace bb := bb.trans (bd.mono bb.size)
  have hwr : (r : Int) + 1 ≤ 301 := by omega
  go_wp2_with fail
  have hmk := fun W => run_mk (P := Try.prog) 23 5 i0 (.int .u8 0) 1 Try.underlying23 hi hz0 hz1 hz2 rfl .i64 .i64 ((r : Int) + 1) ((r : Int) + 1) (r + 1) (r + 1) (by omega) (by omega) (by omega) (by omega) (by omega) W
  have hw1 : IntKind.i64.wrap ((r : Int) + 1) = (r : Int) + 1 := iwrap_small (by omega) (by omega)
  have e30 : appErrF st rs n la size ((r + 1 : Nat) : Int) = 30 := by
    rw [appErr_cases _ hc (by omega), hr.out, if_neg (by omega)]
  refine region_join (α := Nat → Option Addr → Nat → Value → Act) (R := fun T a w' => ∃ kv A6 c6 u35, a = T kv A6 c6 u35 ∧ Blk w' kv #[.int .i64 st, .int .i64 rs, .slice A6 n c6, .int .i64 la] 25 ∧ Nw 5 w3 w' A6 n c6 ((l).map v8) ∧ Below w3.heap.size w3 w') ?TA ?bodyA ?restA
  case bodyA =>
    refine wp_region_held_drew (S := fun w' => Below w3.heap.size w3 w') (by kernel_rfl) (Below.refl _ _).drew (fun hHeld => ?_)
    have b := hHeld
    generalize w3.drew = wd at *
    try simp only [Act.put, List.setIfInBounds_toArray, List.set_cons_zero, List.set_cons_succ]
    refine wpAnyH_take (i := 0) (v := ?_) (by simp only [List.getElem?_toArray, List.getElem?_cons_zero]; rfl) (by kernel_rfl) (by kernel_rfl) (by kernel_rfl) (by intro _ _ _ h; exact nomatch h.1) (Or.inl ⟨by rfl, ?_⟩) hHeld ?_
    rotate_left 1
    · intro wq hSw
      try dsimp only at hSw
      obtain ⟨x0, x1, x2, x3, _⟩ := (Bz.under hSw).four
      go_simp
      try (with_reducible rfl)
    try simp only [Act.put, List.setIfInBounds_toArray, List.set_cons_zero, List.set_cons_succ]
    refine wpAnyH_take (i := 1) (v := ?_) (by simp only [List.getElem?_toArray, List.getElem?_cons_succ, List.getElem?_cons_zero]; rfl) (by kernel_rfl) (by kernel_rfl) (by kernel_rfl) (by intro _ _ _ h; exact nomatch h.1) (Or.inl ⟨by rfl, ?_⟩) hHeld ?_
    rotate_left 1
    · intro wq hSw
      try dsimp only at hSw
      go_simp
      try (with_reducible rfl)
    try simp only [Act.put, List.setIfInBounds_toArray, List.set_cons_zero, List.set_cons_succ]
    refine wpAnyH_take (i := 2) (v := ?_) (by simp only [List.getElem?_toArray, List.getElem?_cons_succ, List.getElem?_cons_zero]; rfl) (by kernel_rfl) (by kernel_rfl) (by kernel_rfl) (by intro _ _ _ h; exact nomatch h.1) (Or.inl ⟨by rfl, ?_⟩) hHeld ?_
    rotate_left 1
    · intro wq hSw
      try dsimp only at hSw
      go_simp
      try (with_reducible rfl)
    try simp only [Act.put, List.setIfInBounds_toArray, List.set_cons_zero, List.set_cons_succ]
    refine wpAnyH_take (i := 3) (v := ?_) (by simp only [List.getElem?_toArray, List.getElem?_cons_succ, List.getElem?_cons_zero]; rfl) (by kernel_rfl) (by kernel_rfl) (by kernel_rfl) (by intro _ _ _ h; exact nomatch h.1) (Or.inl ⟨by rfl, ?_⟩) hHeld ?_
    rotate_left 1
    · intro wq hSw
      try dsimp only at hSw
      go_simp
      try (with_reducible rfl)
    try simp only [Act.put, List.setIfInBounds_toArray, List.set_cons_zero, List.set_cons_succ]
    refine wpAnyH_ready (rs := [4, 9]) (by kernel_rfl) (by simp) ?_
    refine AllReadyH.cons (by simp only [List.getElem?_toArray, List.getElem?_cons_succ, List.getElem?_cons_zero]; rfl) (fun K hK => ?_) (AllReadyH.cons (by simp only [List.getElem?_toArray, List.getElem?_cons_succ, List.getElem?_cons_zero]; rfl) (fun K hK => ?_) AllReadyH.nil)
    · skip
      go_simp
      have O := made_own wd (.int .u8 0) 5 (r + 1) (r + 1) (Nat.le_refl _) (by omega) b.size
      rw [rep8] at O
      replace b := b.alloc b.size (.cells (mk0 (.int .u8 0) (r + 1)) 5)
      generalize hu35 : Value.slice (some ⟨wd.heap.size, 0, none⟩) (r + 1) (r + 1) = u35 at *
      generalize wd.alloc (.cells (mk0 (.int .u8 0) (r + 1)) 5) = w_4_1 at *
      refine hK.out _ _ b (fun hHeld => ?_)
      clear hK K
      try simp only [Act.put, List.setIfInBounds_toArray, List.set_cons_zero, List.set_cons_succ]
      refine wpAnyH_ready (rs := [5, 9]) (by kernel_rfl) (by simp) ?_
      refine AllReadyH.cons (by simp only [List.getElem?_toArray, List.getElem?_cons_succ, List.getElem?_cons_zero]; rfl) (fun K hK => ?_) (AllReadyH.cons (by simp only [List.getElem?_toArray, List.getElem?_cons_succ, List.getElem?_cons_zero]; rfl) (fun K hK => ?_) AllReadyH.nil)
      · skip
        have hSl := sl_of_eq hu35 O
        have hC := zAppend_at st rs la size _ _ _ (List.replicate (r + 1) 0) A n c l st 30 (l) n w_4_1 (s0.below b) hSl (by omega) (by rw [appSt, e30]; simp) (by rw [appDa, e30]; simp) e30 hl0.out
        rw [hu35] at hC
        go_simp
        refine hC.mono ?_
        rintro e w_5_2 ⟨A6, c6, rfl, N, bC⟩
        go_wp2_with fail
        replace N := own_base N b.size
        replace b := b.trans (bC.mono b.size)
        clear hC
        refine hK.out _ _ b (fun hHeld => ?_)
        clear hK K
        try simp only [Act.put, List.setIfInBounds_toArray, List.set_cons_zero, List.set_cons_succ]
        refine wpAnyH_take (i := 6) (v := ?_) (by simp only [List.getElem?_toArray, List.getElem?_cons_succ, List.getElem?_cons_zero]; rfl) (by kernel_rfl) (by kernel_rfl) (by kernel_rfl) (by intro _ _ _ h; exact nomatch h.1) (Or.inl ⟨by rfl, ?_⟩) hHeld ?_
        rotate_left 1
        · intro wq hSw
          try dsimp only at hSw
          go_simp
          try (with_reducible rfl)
        try simp only [Act.put, List.setIfInBounds_toArray, List.set_cons_zero, List.set_cons_succ]
        refine wpAnyH_take (i := 7) (v := ?_) (by simp only [List.getElem?_toArray, List.getElem?_cons_succ, List.getElem?_cons_zero]; rfl) (by kernel_rfl) (by kernel_rfl) (by kernel_rfl) (by intro _ _ _ h; exact nomatch h.1) (Or.inl ⟨by rfl, ?_⟩) hHeld ?_
        rotate_left 1
        · intro wq hSw
          try dsimp only at hSw
          go_simp
          try (with_reducible rfl)
        try simp only [Act.put, List.setIfInBounds_toArray, List.set_cons_zero, List.set_cons_succ]
        refine wpAnyH_take (i := 8) (v := ?_) (by simp only [List.getElem?_toArray, List.getElem?_cons_succ, List.getElem?_cons_zero]; rfl) (by kernel_rfl) (by kernel_rfl) (by kernel_rfl) (by intro _ _ _ h; exact nomatch h.1) (Or.inl ⟨by rfl, ?_⟩) hHeld ?_
        rotate_left 1
        · intro wq hSw
          try dsimp only at hSw
          go_simp
          try (with_reducible rfl)
        try simp only [Act.put, List.setIfInBounds_toArray, List.set_cons_zero, List.set_cons_succ]
        refine wpAnyH_ready (rs := [9]) (by kernel_rfl) (by simp) ?_
        refine AllReadyH.cons (by simp only [List.getElem?_toArray, List.getElem?_cons_succ, List.getElem?_cons_zero]; rfl) (fun K hK => ?_) AllReadyH.nil
        obtain ⟨kv, hkv⟩ : ∃ k, w_5_2.heap.size = k := ⟨_, rfl⟩
        go_simp
        try simp only [hkv]
        have V := Blk.new w_5_2 #[.int .i64 0, .int .i64 0, .slice none 0 0, .int .i64 0] 25
        rw [hkv] at V
        have hcv : w3.heap.size ≤ kv := by rw [← hkv]; exact b.size
        have hneA := ownA_ne N (Nat.le_of_eq hkv)
        replace N := World.ownsRow.alloc N (.cells #[.int .i64 0, .int .i64 0, .slice none 0 0, .int .i64 0] 25)
        skip
        replace b := b.alloc b.size (.cells #[.int .i64 0, .int .i64 0, .slice none 0 0, .int .i64 0] 25)
        generalize w_5_2.alloc (.cells #[.int .i64 0, .int .i64 0, .slice none 0 0, .int .i64 0] 25) = w_9_3 at *
        refine hK.out _ _ b (fun hHeld => ?_)
        clear hK K
        try simp only [Act.put, List.setIfInBounds_toArray, List.set_cons_zero, List.set_cons_succ]
        refine wpAnyH_ready (rs := [10]) (by kernel_rfl) (by simp) ?_
        refine AllReadyH.cons (by simp only [List.getElem?_toArray, List.getElem?_cons_succ, List.getElem?_cons_zero]; rfl) (fun K hK => ?_) AllReadyH.nil
        obtain ⟨z0, z1, z2, z3, i0', i1', i2', i3'⟩ := V.four
        go_simp
        skip
        have V2 := ((((V.set 0 (.int .i64 st)).set 1 (.int .i64 rs)).set 2 (.slice A6 n c6)).set 3 (.int .i64 la))
        simp only [List.setIfInBounds_toArray, List.set_cons_zero, List.set_cons_succ] at V2
        have N2 := (own_far (own_far (own_far (own_far N (a := ⟨kv, 0, none⟩) hneA (.int .i64 st)) (a := ⟨kv, 1, none⟩) hneA (.int .i64 rs)) (a := ⟨kv, 2, none⟩) hneA (.slice A6 n c6)) (a := ⟨kv, 3, none⟩) hneA (.int .i64 la))
        have b2 := ((((b.setCell (p := ⟨kv, 0, none⟩) hcv (.int .i64 st)).setCell (p := ⟨kv, 1, none⟩) hcv (.int .i64 rs)).setCell (p := ⟨kv, 2, none⟩) hcv (.slice A6 n c6)).setCell (p := ⟨kv, 3, none⟩) hcv (.int .i64 la))
        clear z0 z1 z2 z3 i0' i1' i2' i3'
        clear V N b
        generalize ((((w_9_3.setCell ⟨kv, 0, none⟩ (.int .i64 st)).setCell ⟨kv, 1, none⟩ (.int .i64 rs)).setCell ⟨kv, 2, none⟩ (.slice A6 n c6)).setCell ⟨kv, 3, none⟩ (.int .i64 la)) = w_10_4 at *
        have V := V2
        have N := N2
        have b := b2
        clear V2 N2 b2
        refine hK.out _ _ b (fun hHeld => ?_)
        clear hK K
        try simp only [Act.put, List.setIfInBounds_toArray, List.set_cons_zero, List.set_cons_succ]
        refine wpAnyH_take (i := 11) (v := ?_) (by simp only [List.getElem?_toArray, List.getElem?_cons_succ, List.getElem?_cons_zero]; rfl) (by kernel_rfl) (by kernel_rfl) (by kernel_rfl) (by intro _ _ _ h; exact nomatch h.1) (Or.inl ⟨by rfl, ?_⟩) hHeld ?_
        rotate_left 1
        · intro wq hSw
          try dsimp only at hSw
          go_simp
          try (with_reducible rfl)
        try simp only [Act.put, List.setIfInBounds_toArray, List.set_cons_zero, List.set_cons_succ]
        refine wpAnyH_done (by kernel_rfl) ?_ _
        refine ⟨rfl, kv, A6, c6, u35, ?_, V, N, b⟩
        with_reducible rfl
      · skip
        obtain ⟨kv, hkv⟩ : ∃ k, w_4_1.heap.size = k := ⟨_, rfl⟩
        go_simp
        try simp only [hkv]
        have V := Blk.new w_4_1 #[.int .i64 0, .int .i64 0, .slice none 0 0, .int .i64 0] 25
        rw [hkv] at V
        have hcv : w3.heap.size ≤ kv := by rw [← hkv]; exact b.size
        have hneU := own_ne O (Nat.le_of_eq hkv)
        replace O := World.ownsRow.alloc O (.cells #[.int .i64 0, .int .i64 0, .slice none 0 0, .int .i64 0] 25)
        skip
        replace b := b.alloc b.size (.cells #[.int .i64 0, .int .i64 0, .slice none 0 0, .int .i64 0] 25)
        generalize w_4_1.alloc (.cells #[.int .i64 0, .int .i64 0, .slice none 0 0, .int .i64 0] 25) = w_9_2 at *
        refine hK.out _ _ b (fun hHeld => ?_)
        clear hK K
        try simp only [Act.put, List.setIfInBounds_toArray, List.set_cons_zero, List.set_cons_succ]
        refine wpAnyH_ready (rs := [5]) (by kernel_rfl) (by simp) ?_
        refine AllReadyH.cons (by simp only [List.getElem?_toArray, List.getElem?_cons_succ, List.getElem?_cons_zero]; rfl) (fun K hK => ?_) AllReadyH.nil
        have hSl := sl_of_eq hu35 O
        have hC := zAppend_at st rs la size _ _ _ (List.replicate (r + 1) 0) A n c l st 30 (l) n w_9_2 (s0.below b) hSl (by omega) (by rw [appSt, e30]; simp) (by rw [appDa, e30]; simp) e30 hl0.out
        rw [hu35] at hC
        go_simp
        refine hC.mono ?_
        rintro e w_5_3 ⟨A6, c6, rfl, N, bC⟩
        go_wp2_with fail
        have hneA := nw_ne N V.lt
        replace V := V.under bC
        replace N := own_base N b.size
        replace b := b.trans (bC.mono b.size)
        clear hC
        refine hK.out _ _ b (fun hHeld => ?_)
        clear hK K
        try simp only [Act.put, List.setIfInBounds_toArray, List.set_cons_zero, List.set_cons_succ]
        refine wpAnyH_take (i := 6) (v := ?_) (by simp only [List.getElem?_toArray, List.getElem?_cons_succ, List.getElem?_cons_zero]; rfl) (by kernel_rfl) (by kernel_rfl) (by kernel_rfl) (by intro _ _ _ h; exact nomatch h.1) (Or.inl ⟨by rfl, ?_⟩) hHeld ?_
        rotate_left 1
        · intro wq hSw
          try dsimp only at hSw
          go_simp
          try (with_reducible rfl)
        try simp only [Act.put, List.setIfInBounds_toArray, List.set_cons_zero, List.set_cons_succ]
        refine wpAnyH_take (i := 7) (v := ?_) (by simp only [List.getElem?_toArray, List.getElem?_cons_succ, List.getElem?_cons_zero]; rfl) (by kernel_rfl) (by kernel_rfl) (by kernel_rfl) (by intro _ _ _ h; exact nomatch h.1) (Or.inl ⟨by rfl, ?_⟩) hHeld ?_
        rotate_left 1
        · intro wq hSw
          try dsimp only at hSw
          go_simp
          try (with_reducible rfl)
        try simp only [Act.put, List.setIfInBounds_toArray, List.set_cons_zero, List.set_cons_succ]
        refine wpAnyH_take (i := 8) (v := ?_) (by simp only [List.getElem?_toArray, List.getElem?_cons_succ, List.getElem?_cons_zero]; rfl) (by kernel_rfl) (by kernel_rfl) (by kernel_rfl) (by intro _ _ _ h; exact nomatch h.1) (Or.inl ⟨by rfl, ?_⟩) hHeld ?_
        rotate_left 1
        · intro wq hSw
          try dsimp only at hSw
          go_simp
          try (with_reducible rfl)
        try simp only [Act.put, List.setIfInBounds_toArray, List.set_cons_zero, List.set_cons_succ]
        refine wpAnyH_ready (rs := [10]) (by kernel_rfl) (by simp) ?_
        refine AllReadyH.cons (by simp only [List.getElem?_toArray, List.getElem?_cons_succ, List.getElem?_cons_zero]; rfl) (fun K hK => ?_) AllReadyH.nil
        obtain ⟨z0, z1, z2, z3, i0', i1', i2', i3'⟩ := V.four
        go_simp
        skip
        have V2 := ((((V.set 0 (.int .i64 st)).set 1 (.int .i64 rs)).set 2 (.slice A6 n c6)).set 3 (.int .i64 la))
        simp only [List.setIfInBounds_toArray, List.set_cons_zero, List.set_cons_succ] at V2
        have N2 := (own_far (own_far (own_far (own_far N (a := ⟨kv, 0, none⟩) hneA (.int .i64 st)) (a := ⟨kv, 1, none⟩) hneA (.int .i64 rs)) (a := ⟨kv, 2, none⟩) hneA (.slice A6 n c6)) (a := ⟨kv, 3, none⟩) hneA (.int .i64 la))
        have b2 := ((((b.setCell (p := ⟨kv, 0, none⟩) hcv (.int .i64 st)).setCell (p := ⟨kv, 1, none⟩) hcv (.int .i64 rs)).setCell (p := ⟨kv, 2, none⟩) hcv (.slice A6 n c6)).setCell (p := ⟨kv, 3, none⟩) hcv (.int .i64 la))
        clear z0 z1 z2 z3 i0' i1' i2' i3'
        clear V N b
        generalize ((((w_5_3.setCell ⟨kv, 0, none⟩ (.int .i64 st)).setCell ⟨kv, 1, none⟩ (.int .i64 rs)).setCell ⟨kv, 2, none⟩ (.slice A6 n c6)).setCell ⟨kv, 3, none⟩ (.int .i64 la)) = w_10_4 at *
        have V := V2
        have N := N2
        have b := b2
        clear V2 N2 b2
        refine hK.out _ _ b (fun hHeld => ?_)
        clear hK K
        try simp only [Act.put, List.setIfInBounds_toArray, List.set_cons_zero, List.set_cons_succ]
        refine wpAnyH_take (i := 11) (v := ?_) (by simp only [List.getElem?_toArray, List.getElem?_cons_succ, List.getElem?_cons_zero]; rfl) (by kernel_rfl) (by kernel_rfl) (by kernel_rfl) (by intro _ _ _ h; exact nomatch h.1) (Or.inl ⟨by rfl, ?_⟩) hHeld ?_
        rotate_left 1
        · intro wq hSw
          try dsimp only at hSw
          go_simp
          try (with_reducible rfl)
        try simp only [Act.put, List.setIfInBounds_toArray, List.set_cons_zero, List.set_cons_succ]
        refine wpAnyH_done (by kernel_rfl) ?_ _
        refine ⟨rfl, kv, A6, c6, u35, ?_, V, N, b⟩
        with_reducible rfl
    · skip
      obtain ⟨kv, hkv⟩ : ∃ k, wd.heap.size = k := ⟨_, rfl⟩
      go_simp
      try simp only [hkv]
      have V := Blk.new wd #[.int .i64 0, .int .i64 0, .slice none 0 0, .int .i64 0] 25
      rw [hkv] at V
      have hcv : w3.heap.size ≤ kv := by rw [← hkv]; exact b.size
      skip
      replace b := b.alloc b.size (.cells #[.int .i64 0, .int .i64 0, .slice none 0 0, .int .i64 0] 25)
      generalize wd.alloc (.cells #[.int .i64 0, .int .i64 0, .slice none 0 0, .int .i64 0] 25) = w_9_1 at *
      refine hK.out _ _ b (fun hHeld => ?_)
      clear hK K
      try simp only [Act.put, List.setIfInBounds_toArray, List.set_cons_zero, List.set_cons_succ]
      refine wpAnyH_ready (rs := [4]) (by kernel_rfl) (by simp) ?_
      refine AllReadyH.cons (by simp only [List.getElem?_toArray, List.getElem?_cons_succ, List.getElem?_cons_zero]; rfl) (fun K hK => ?_) AllReadyH.nil
      go_simp
      have O := made_own w_9_1 (.int .u8 0) 5 (r + 1) (r + 1) (Nat.le_refl _) (by omega) b.size
      rw [rep8] at O
      have hneU := slice_ne (r + 1) V.lt
      replace V := V.alloc (.cells (mk0 (.int .u8 0) (r + 1)) 5)
      replace b := b.alloc b.size (.cells (mk0 (.int .u8 0) (r + 1)) 5)
      generalize hu35 : Value.slice (some ⟨w_9_1.heap.size, 0, none⟩) (r + 1) (r + 1) = u35 at *
      generalize w_9_1.alloc (.cells (mk0 (.int .u8 0) (r + 1)) 5) = w_4_2 at *
      refine hK.out _ _ b (fun hHeld => ?_)
      clear hK K
      try simp only [Act.put, List.setIfInBounds_toArray, List.set_cons_zero, List.set_cons_succ]
      refine wpAnyH_ready (rs := [5]) (by kernel_rfl) (by simp) ?_
      refine AllReadyH.cons (by simp only [List.getElem?_toArray, List.getElem?_cons_succ, List.getElem?_cons_zero]; rfl) (fun K hK => ?_) AllReadyH.nil
      have hSl := sl_of_eq hu35 O
      have hC := zAppend_at st rs la size _ _ _ (List.replicate (r + 1) 0) A n c l st 30 (l) n w_4_2 (s0.below b) hSl (by omega) (by rw [appSt, e30]; simp) (by rw [appDa, e30]; simp) e30 hl0.out
      rw [hu35] at hC
      go_simp
      refine hC.mono ?_
      rintro e w_5_3 ⟨A6, c6, rfl, N, bC⟩
      go_wp2_with fail
      have hneA := nw_ne N V.lt
      replace V := V.under bC
      replace N := own_base N b.size
      replace b := b.trans (bC.mono b.size)
      clear hC
      refine hK.out _ _ b (fun hHeld => ?_)
      clear hK K
      try simp only [Act.put, List.setIfInBounds_toArray, List.set_cons_zero, List.set_cons_succ]
      refine wpAnyH_take (i := 6) (v := ?_) (by simp only [List.getElem?_toArray, List.getElem?_cons_succ, List.getElem?_cons_zero]; rfl) (by kernel_rfl) (by kernel_rfl) (by kernel_rfl) (by intro _ _ _ h; exact nomatch h.1) (Or.inl ⟨by rfl, ?_⟩) hHeld ?_
      rotate_left 1
      · intro wq hSw
        try dsimp only at hSw
        go_simp
        try (with_reducible rfl)
      try simp only [Act.put, List.setIfInBounds_toArray, List.set_cons_zero, List.set_cons_succ]
      refine wpAnyH_take (i := 7) (v := ?_) (by simp only [List.getElem?_toArray, List.getElem?_cons_succ, List.getElem?_cons_zero]; rfl) (by kernel_rfl) (by kernel_rfl) (by kernel_rfl) (by intro _ _ _ h; exact nomatch h.1) (Or.inl ⟨by rfl, ?_⟩) hHeld ?_
      rotate_left 1
      · intro wq hSw
        try dsimp only at hSw
        go_simp
        try (with_reducible rfl)
      try simp only [Act.put, List.setIfInBounds_toArray, List.set_cons_zero, List.set_cons_succ]
      refine wpAnyH_take (i := 8) (v := ?_) (by simp only [List.getElem?_toArray, List.getElem?_cons_succ, List.getElem?_cons_zero]; rfl) (by kernel_rfl) (by kernel_rfl) (by kernel_rfl) (by intro _ _ _ h; exact nomatch h.1) (Or.inl ⟨by rfl, ?_⟩) hHeld ?_
      rotate_left 1
      · intro wq hSw
        try dsimp only at hSw
        go_simp
        try (with_reducible rfl)
      try simp only [Act.put, List.setIfInBounds_toArray, List.set_cons_zero, List.set_cons_succ]
      refine wpAnyH_ready (rs := [10]) (by kernel_rfl) (by simp) ?_
      refine AllReadyH.cons (by simp only [List.getElem?_toArray, List.getElem?_cons_succ, List.getElem?_cons_zero]; rfl) (fun K hK => ?_) AllReadyH.nil
      obtain ⟨z0, z1, z2, z3, i0', i1', i2', i3'⟩ := V.four
      go_simp
      skip
      have V2 := ((((V.set 0 (.int .i64 st)).set 1 (.int .i64 rs)).set 2 (.slice A6 n c6)).set 3 (.int .i64 la))
      simp only [List.setIfInBounds_toArray, List.set_cons_zero, List.set_cons_succ] at V2
      have N2 := (own_far (own_far (own_far (own_far N (a := ⟨kv, 0, none⟩) hneA (.int .i64 st)) (a := ⟨kv, 1, none⟩) hneA (.int .i64 rs)) (a := ⟨kv, 2, none⟩) hneA (.slice A6 n c6)) (a := ⟨kv, 3, none⟩) hneA (.int .i64 la))
      have b2 := ((((b.setCell (p := ⟨kv, 0, none⟩) hcv (.int .i64 st)).setCell (p := ⟨kv, 1, none⟩) hcv (.int .i64 rs)).setCell (p := ⟨kv, 2, none⟩) hcv (.slice A6 n c6)).setCell (p := ⟨kv, 3, none⟩) hcv (.int .i64 la))
      clear z0 z1 z2 z3 i0' i1' i2' i3'
      clear V N b
      generalize ((((w_5_3.setCell ⟨kv, 0, none⟩ (.int .i64 st)).setCell ⟨kv, 1, none⟩ (.int .i64 rs)).setCell ⟨kv, 2, none⟩ (.slice A6 n c6)).setCell ⟨kv, 3, none⟩ (.int .i64 la)) = w_10_4 at *
      have V := V2
      have N := N2
      have b := b2
      clear V2 N2 b2
      refine hK.out _ _ b (fun hHeld => ?_)
      clear hK K
      try simp only [Act.put, List.setIfInBounds_toArray, List.set_cons_zero, List.set_cons_succ]
      refine wpAnyH_take (i := 11) (v := ?_) (by simp only [List.getElem?_toArray, List.getElem?_cons_succ, List.getElem?_cons_zero]; rfl) (by kernel_rfl) (by kernel_rfl) (by kernel_rfl) (by intro _ _ _ h; exact nomatch h.1) (Or.inl ⟨by rfl, ?_⟩) hHeld ?_
      rotate_left 1
      · intro wq hSw
        try dsimp only at hSw
        go_simp
        try (with_reducible rfl)
      try simp only [Act.put, List.setIfInBounds_toArray, List.set_cons_zero, List.set_cons_succ]
      refine wpAnyH_done (by kernel_rfl) ?_ _
      refine ⟨rfl, kv, A6, c6, u35, ?_, V, N, b⟩
      with_reducible rfl
  clear hmk hw1 e30
  rintro a w4 ⟨kv, A6, c6, u35, rfl, Bv, N6, b6⟩
  replace s0 := s0.below b6
  replace Bz := Bz.under b6
  replace bb := bb.trans (b6.mono bb.size)
  try dsimp only
  by_cases h3 : st = 3
  · subst h3
    obtain rfl := hr2.out rfl
    obtain ⟨Bzq0, Bzq1, Bzq2, Bzq3, Bzr0, Bzr1, Bzr2, Bzr3⟩ := Bz.four
    have Bzl := Bz.lt
    replace s0 := s0.alloc (.cells #[.int .i64 3, .int .i64 rs, .slice A n c, .int .i64 la] 25)
    replace Bz := Bz.alloc (.cells #[.int .i64 3, .int .i64 rs, .slice A n c, .int .i64 la] 25)
    replace Bv := Bv.alloc (.cells #[.int .i64 3, .int .i64 rs, .slice A n c, .int .i64 la] 25)
    replace bb := bb.alloc bb.size (.cells #[.int .i64 3, .int .i64 rs, .slice A n c, .int .i64 la] 25)
    have Bf := Blk.new w4 #[.int .i64 3, .int .i64 rs, .slice A n c, .int .i64 la] 25
    replace s0 := s0.alloc (.cells #[.int .u8 1] 5)
    replace Bz := Bz.alloc (.cells #[.int .u8 1] 5)
    replace Bv := Bv.alloc (.cells #[.int .u8 1] 5)
    replace Bf := Bf.alloc (.cells #[.int .u8 1] 5)
    replace bb := bb.alloc bb.size (.cells #[.int .u8 1] 5)
    have lb := slB (w4.alloc (.cells #[.int .i64 3, .int .i64 rs, .slice A n c, .int .i64 la] 25)) [1] #[.int .u8 1] rfl (by decide)
    simp only [World.size_alloc] at lb
    go_wp2_with fail
    clear Bzq0 Bzq1 Bzq2 Bzq3 Bzr0 Bzr1 Bzr2 Bzr3
    generalize ((w4.alloc (.cells #[.int .i64 3, .int .i64 rs, .slice A n c, .int .i64 la] 25)).alloc (.cells #[.int .u8 1] 5)) = W2 at *
    have e30 : appErrF 3 rs (n : Nat) la size ((1 : Nat) : Int) = 30 := by
      rw [appErr_cases _ hc (by decide), room_val hc]
      simp
    have hC := zAppend_at 3 rs la size _ 1 1 [1] A (n) c (l) 3 30 (l) (n) W2 s0 lb (by omega) (by rw [appSt, e30]; simp) (by rw [appDa, e30]; simp) e30 hl0.out
    refine hC.mono ?_
    clear hC
    rintro e w8 ⟨A8, c8, rfl, N8, b8⟩
    replace s0 := s0.below b8
    replace Bz := Bz.under b8
    replace Bv := Bv.under b8
    replace Bf := Bf.under b8
    replace lb := lb.below b8
    replace bb := bb.trans (b8.mono bb.size)
    have s8 := N8.sl
    obtain ⟨Bfq0, Bfq1, Bfq2, Bfq3, Bfr0, Bfr1, Bfr2, Bfr3⟩ := Bf.four
    have Bfl := Bf.lt
    replace s0 := s0.alloc (.cells #[.int .i64 3, .int .i64 rs, .slice A8 (n) c8, .int .i64 la] 25)
    replace Bz := Bz.alloc (.cells #[.int .i64 3, .int .i64 rs, .slice A8 (n) c8, .int .i64 la] 25)
    replace Bv := Bv.alloc (.cells #[.int .i64 3, .int .i64 rs, .slice A8 (n) c8, .int .i64 la] 25)
    replace Bf := Bf.alloc (.cells #[.int .i64 3, .int .i64 rs, .slice A8 (n) c8, .int .i64 la] 25)
    replace lb := lb.alloc (.cells #[.int .i64 3, .int .i64 rs, .slice A8 (n) c8, .int .i64 la] 25)
    replace s8 := s8.alloc (.cells #[.int .i64 3, .int .i64 rs, .slice A8 (n) c8, .int .i64 la] 25)
    replace bb := bb.alloc bb.size (.cells #[.int .i64 3, .int .i64 rs, .slice A8 (n) c8, .int .i64 la] 25)
    have Bh := Blk.new w8 #[.int .i64 3, .int .i64 rs, .slice A8 (n) c8, .int .i64 la] 25
    go_wp2_with fail
    clear Bfq0 Bfq1 Bfq2 Bfq3 Bfr0 Bfr1 Bfr2 Bfr3
    generalize (w8.alloc (.cells #[.int .i64 3, .int .i64 rs, .slice A8 (n) c8, .int .i64 la] 25)) = W3 at *
    cases hR : resB 3 rs
    · have hR' : Hid (resB 3 rs = false) := hR
      clear hR
      have hC := zReset_at 3 rs la A (n) c (l) 3 rs la 30 (l) (n) W3 s0 (by omega) (by simp [resSt, hR'.out]) (by simp [resRs, hR'.out]) (by simp [resDa, hR'.out]) (by simp [resLa, hR'.out]) (by simp [resEr, hR'.out]) hl0.out
      refine hC.mono ?_
      clear hC
      rintro e w9 ⟨A9, c9, rfl, N9, b9⟩
      replace s0 := s0.below b9
      replace Bz := Bz.under b9
      replace Bv := Bv.under b9
      replace Bf := Bf.under b9
      replace lb := lb.below b9
      replace s8 := s8.below b9
      replace Bh := Bh.under b9
      replace bb := bb.trans (b9.mono bb.size)
      have hrs : rs = 1073741824 := by have hx := hR'.out; have hy := hb'.out; simp [resB] at hx; omega
      subst hrs
      obtain ⟨Bfq0, Bfq1, Bfq2, Bfq3, Bfr0, Bfr1, Bfr2, Bfr3⟩ := Bf.four
      have Bfl := Bf.lt
      obtain ⟨Bzq0, Bzq1, Bzq2, Bzq3, Bzr0, Bzr1, Bzr2, Bzr3⟩ := Bz.four
      have Bzl := Bz.lt
      go_wp2
      go_ret
      exact ⟨rfl, bb.alloc bb.size _⟩
    · have hR' : Hid (resB 3 rs = true) := hR
      clear hR
      have hC := zReset_at 3 rs la A (n) c (l) 0 (rs + 1) 0 0 [] 0 W3 s0 (by omega) (by simp [resSt, hR'.out]) (by simp [resRs, hR'.out]) (by simp [resDa, hR'.out]) (by simp [resLa, hR'.out]) (by simp [resEr, hR'.out]) rfl
      refine hC.mono ?_
      clear hC
      rintro e w9 ⟨A9, c9, rfl, N9, b9⟩
      replace s0 := s0.below b9
      replace Bz := Bz.under b9
      replace Bv := Bv.under b9
      replace Bf := Bf.under b9
      replace lb := lb.below b9
      replace s8 := s8.below b9
      replace Bh := Bh.under b9
      replace bb := bb.trans (b9.mono bb.size)
      have hrs : 0 ≤ rs ∧ rs < 1073741824 := by have hx := hR'.out; simp [resB] at hx; omega
      have hroom : Hid (roomF 0 (rs + 1) ((0 : Nat) : Int) 0 size = size) := by
        show roomF 0 (rs + 1) ((0 : Nat) : Int) 0 size = size
        have hx := hb'.out
        rw [room_val (by simp only [chkF, decide_eq_true_eq]; omega)]
        simp
      obtain ⟨Bfq0, Bfq1, Bfq2, Bfq3, Bfr0, Bfr1, Bfr2, Bfr3⟩ := Bf.four
      have Bfl := Bf.lt
      obtain ⟨Bzq0, Bzq1, Bzq2, Bzq3, Bzr0, Bzr1, Bzr2, Bzr3⟩ := Bz.four
      have Bzl := Bz.lt
      replace s0 := s0.alloc (.cells #[.int .i64 0, .int .i64 (rs + 1), .slice A9 0 c9, .int .i64 0] 25)
      replace Bz := Bz.alloc (.cells #[.int .i64 0, .int .i64 (rs + 1), .slice A9 0 c9, .int .i64 0] 25)
      replace Bv := Bv.alloc (.cells #[.int .i64 0, .int .i64 (rs + 1), .slice A9 0 c9, .int .i64 0] 25)
      replace Bf := Bf.alloc (.cells #[.int .i64 0, .int .i64 (rs + 1), .slice A9 0 c9, .int .i64 0] 25)
      replace lb := lb.alloc (.cells #[.int .i64 0, .int .i64 (rs + 1), .slice A9 0 c9, .int .i64 0] 25)
      replace s8 := s8.alloc (.cells #[.int .i64 0, .int .i64 (rs + 1), .slice A9 0 c9, .int .i64 0] 25)
      replace Bh := Bh.alloc (.cells #[.int .i64 0, .int .i64 (rs + 1), .slice A9 0 c9, .int .i64 0] 25)
      replace bb := bb.alloc bb.size (.cells #[.int .i64 0, .int .i64 (rs + 1), .slice A9 0 c9, .int .i64 0] 25)
      have Br := Blk.new w9 #[.int .i64 0, .int .i64 (rs + 1), .slice A9 0 c9, .int .i64 0] 25
      go_wp2_with fail
      clear Bfq0 Bfq1 Bfq2 Bfq3 Bfr0 Bfr1 Bfr2 Bfr3
      clear Bzq0 Bzq1 Bzq2 Bzq3 Bzr0 Bzr1 Bzr2 Bzr3
      generalize (w9.alloc (.cells #[.int .i64 0, .int .i64 (rs + 1), .slice A9 0 c9, .int .i64 0] 25)) = W4 at *
      have hC := zRoom_at 0 (rs + 1) 0 size A9 0 c9 size W4 hroom.out
      refine hC.mono ?_
      clear hC
      rintro e w10 ⟨rfl, b10⟩
      replace s0 := s0.below b10
      replace Bz := Bz.under b10
      replace Bv := Bv.under b10
      replace Bf := Bf.under b10
      replace lb := lb.below b10
      replace s8 := s8.below b10
      replace Bh := Bh.under b10
      replace Br := Br.under b10
      replace bb := bb.trans (b10.mono bb.size)
      obtain ⟨Bfq0, Bfq1, Bfq2, Bfq3, Bfr0, Bfr1, Bfr2, Bfr3⟩ := Bf.four
      have Bfl := Bf.lt
      obtain ⟨Bzq0, Bzq1, Bzq2, Bzq3, Bzr0, Bzr1, Bzr2, Bzr3⟩ := Bz.four
      have Bzl := Bz.lt
      go_wp2
      go_ret
      exact ⟨rfl, bb⟩
  · obtain ⟨hr4, hr5⟩ := hr3.out h3
    have hfu : fullF ((n : Int) + r) size = 3 := by unfold fullF; rw [if_pos (by omega)]
    clear hr4
    have hr5' : 0 < (r : Int) := by omega
    have h3b : (st == 3) = false := by simpa using h3
    have hzf := Bz.lt
    obtain ⟨Bzq0, Bzq1, Bzq2, Bzq3, Bzr0, Bzr1, Bzr2, Bzr3⟩ := Bz.four
    have Bzl := Bz.lt
    replace s0 := s0.alloc (.cells #[.int .i64 st, .int .i64 rs, .slice A n c, .int .i64 la] 25)
    replace Bz := Bz.alloc (.cells #[.int .i64 st, .int .i64 rs, .slice A n c, .int .i64 la] 25)
    replace Bv := Bv.alloc (.cells #[.int .i64 st, .int .i64 rs, .slice A n c, .int .i64 la] 25)
    replace bb := bb.alloc bb.size (.cells #[.int .i64 st, .int .i64 rs, .slice A n c, .int .i64 la] 25)
    have Bf := Blk.new w4 #[.int .i64 st, .int .i64 rs, .slice A n c, .int .i64 la] 25
    go_wp2_with fail
    clear Bzq0 Bzq1 Bzq2 Bzq3 Bzr0 Bzr1 Bzr2 Bzr3
    generalize (w4.alloc (.cells #[.int .i64 st, .int .i64 rs, .slice A n c, .int .i64 la] 25)) = W2 at *
    have hf4 := Bf.lt
    have hmk := fun W => run_mk (P := Try.prog) 23 5 i0 (.int .u8 0) 1 Try.underlying23 hi hz0 hz1 hz2 rfl .i64 .i64 (r : Int) (r : Int) (r) (r) (by omega) (by omega) (by omega) (by omega) (by omega) W
    have e0 : appErrF st rs n la size (r : Int) = 0 := by
      rw [appErr_cases _ hc (by omega), hr.out, if_pos (Int.le_refl _)]
    have hck : chkF 3 rs ((n + r : Nat) : Int) la size = true := by
      have hx := (chk_app hc hr5' e0).2.2
      rw [hfu] at hx
      simpa using hx
    have hlen : (l ++ List.replicate r (0 : UInt8)).length = n + r := by rw [List.length_append, hl0.out, List.length_replicate]
    refine region_join (α := Nat → Option Addr → Nat → Value → Act) (R := fun T a w' => ∃ kv A6 c6 u46, a = T kv A6 c6 u46 ∧ Blk w' kv #[.int .i64 3, .int .i64 rs, .slice A6 (n + r) c6, .int .i64 la] 25 ∧ Nw 5 W2 w' A6 (n + r) c6 ((l ++ List.replicate r (0 : UInt8)).map v8) ∧ Below W2.heap.size W2 w') ?TB ?bodyB ?restB
    case bodyB =>
      refine wp_region_held_drew (S := fun w' => Below W2.heap.size W2 w') (by kernel_rfl) (Below.refl _ _).drew (fun hHeld => ?_)
      have b := hHeld
      generalize W2.drew = wd at *
      try simp only [Act.put, List.setIfInBounds_toArray, List.set_cons_zero, List.set_cons_succ]
      refine wpAnyH_take (i := 0) (v := ?_) (by simp only [List.getElem?_toArray, List.getElem?_cons_zero]; rfl) (by kernel_rfl) (by kernel_rfl) (by kernel_rfl) (by intro _ _ _ h; exact nomatch h.1) (Or.inl ⟨by rfl, ?_⟩) hHeld ?_
      rotate_left 1
      · intro wq hSw
        try dsimp only at hSw
        obtain ⟨x0, x1, x2, x3, _⟩ := (Bz.under hSw).four
        go_simp
        try (with_reducible rfl)
      try simp only [Act.put, List.setIfInBounds_toArray, List.set_cons_zero, List.set_cons_succ]
      refine wpAnyH_take (i := 1) (v := ?_) (by simp only [List.getElem?_toArray, List.getElem?_cons_succ, List.getElem?_cons_zero]; rfl) (by kernel_rfl) (by kernel_rfl) (by kernel_rfl) (by intro _ _ _ h; exact nomatch h.1) (Or.inl ⟨by rfl, ?_⟩) hHeld ?_
      rotate_left 1
      · intro wq hSw
        try dsimp only at hSw
        go_simp
        try (with_reducible rfl)
      try simp only [Act.put, List.setIfInBounds_toArray, List.set_cons_zero, List.set_cons_succ]
      refine wpAnyH_take (i := 2) (v := ?_) (by simp only [List.getElem?_toArray, List.getElem?_cons_succ, List.getElem?_cons_zero]; rfl) (by kernel_rfl) (by kernel_rfl) (by kernel_rfl) (by intro _ _ _ h; exact nomatch h.1) (Or.inl ⟨by rfl, ?_⟩) hHeld ?_
      rotate_left 1
      · intro wq hSw
        try dsimp only at hSw
        go_simp
        try (with_reducible rfl)
      try simp only [Act.put, List.setIfInBounds_toArray, List.set_cons_zero, List.set_cons_succ]
      refine wpAnyH_ready (rs := [3, 8]) (by kernel_rfl) (by simp) ?_
      refine AllReadyH.cons (by simp only [List.getElem?_toArray, List.getElem?_cons_succ, List.getElem?_cons_zero]; rfl) (fun K hK => ?_) (AllReadyH.cons (by simp only [List.getElem?_toArray, List.getElem?_cons_succ, List.getElem?_cons_zero]; rfl) (fun K hK => ?_) AllReadyH.nil)
      · skip
        go_simp
        have O := made_own wd (.int .u8 0) 5 (r) (r) (Nat.le_refl _) (by omega) b.size
        rw [rep8] at O
        replace b := b.alloc b.size (.cells (mk0 (.int .u8 0) (r)) 5)
        generalize hu46 : Value.slice (some ⟨wd.heap.size, 0, none⟩) (r) (r) = u46 at *
        generalize wd.alloc (.cells (mk0 (.int .u8 0) (r)) 5) = w_3_1 at *
        refine hK.out _ _ b (fun hHeld => ?_)
        clear hK K
        try simp only [Act.put, List.setIfInBounds_toArray, List.set_cons_zero, List.set_cons_succ]
        refine wpAnyH_ready (rs := [4, 8]) (by kernel_rfl) (by simp) ?_
        refine AllReadyH.cons (by simp only [List.getElem?_toArray, List.getElem?_cons_succ, List.getElem?_cons_zero]; rfl) (fun K hK => ?_) (AllReadyH.cons (by simp only [List.getElem?_toArray, List.getElem?_cons_succ, List.getElem?_cons_zero]; rfl) (fun K hK => ?_) AllReadyH.nil)
        · skip
          have hSl := sl_of_eq hu46 O
          have hC := zAppend_at st rs la size _ _ _ (List.replicate (r) 0) A n c l 3 0 (l ++ List.replicate r (0 : UInt8)) (n + r) w_3_1 (s0.below b) hSl (by omega) (by rw [appSt, e0, if_pos rfl, hfu]) (by rw [appDa, e0, if_pos rfl]) e0 hlen
          rw [hu46] at hC
          go_simp
          refine hC.mono ?_
          rintro e w_4_2 ⟨A6, c6, rfl, N, bC⟩
          go_wp2_with fail
          replace N := own_base N b.size
          replace b := b.trans (bC.mono b.size)
          clear hC
          refine hK.out _ _ b (fun hHeld => ?_)
          clear hK K
          try simp only [Act.put, List.setIfInBounds_toArray, List.set_cons_zero, List.set_cons_succ]
          refine wpAnyH_take (i := 5) (v := ?_) (by simp only [List.getElem?_toArray, List.getElem?_cons_succ, List.getElem?_cons_zero]; rfl) (by kernel_rfl) (by kernel_rfl) (by kernel_rfl) (by intro _ _ _ h; exact nomatch h.1) (Or.inl ⟨by rfl, ?_⟩) hHeld ?_
          rotate_left 1
          · intro wq hSw
            try dsimp only at hSw
            go_simp
            try (with_reducible rfl)
          try simp only [Act.put, List.setIfInBounds_toArray, List.set_cons_zero, List.set_cons_succ]
          refine wpAnyH_take (i := 6) (v := ?_) (by simp only [List.getElem?_toArray, List.getElem?_cons_succ, List.getElem?_cons_zero]; rfl) (by kernel_rfl) (by kernel_rfl) (by kernel_rfl) (by intro _ _ _ h; exact nomatch h.1) (Or.inl ⟨by rfl, ?_⟩) hHeld ?_
          rotate_left 1
          · intro wq hSw
            try dsimp only at hSw
            go_simp
            try (with_reducible rfl)
          try simp only [Act.put, List.setIfInBounds_toArray, List.set_cons_zero, List.set_cons_succ]
          refine wpAnyH_take (i := 7) (v := ?_) (by simp only [List.getElem?_toArray, List.getElem?_cons_succ, List.getElem?_cons_zero]; rfl) (by kernel_rfl) (by kernel_rfl) (by kernel_rfl) (by intro _ _ _ h; exact nomatch h.1) (Or.inl ⟨by rfl, ?_⟩) hHeld ?_
          rotate_left 1
          · intro wq hSw
            try dsimp only at hSw
            go_simp
            try (with_reducible rfl)
          try simp only [Act.put, List.setIfInBounds_toArray, List.set_cons_zero, List.set_cons_succ]
          refine wpAnyH_ready (rs := [8]) (by kernel_rfl) (by simp) ?_
          refine AllReadyH.cons (by simp only [List.getElem?_toArray, List.getElem?_cons_succ, List.getElem?_cons_zero]; rfl) (fun K hK => ?_) AllReadyH.nil
          obtain ⟨kv, hkv⟩ : ∃ k, w_4_2.heap.size = k := ⟨_, rfl⟩
          go_simp
          try simp only [hkv]
          have V := Blk.new w_4_2 #[.int .i64 0, .int .i64 0, .slice none 0 0, .int .i64 0] 25
          rw [hkv] at V
          have hcv : W2.heap.size ≤ kv := by rw [← hkv]; exact b.size
          have hneA := ownA_ne N (Nat.le_of_eq hkv)
          replace N := World.ownsRow.alloc N (.cells #[.int .i64 0, .int .i64 0, .slice none 0 0, .int .i64 0] 25)
          skip
          replace b := b.alloc b.size (.cells #[.int .i64 0, .int .i64 0, .slice none 0 0, .int .i64 0] 25)
          generalize w_4_2.alloc (.cells #[.int .i64 0, .int .i64 0, .slice none 0 0, .int .i64 0] 25) = w_8_3 at *
          refine hK.out _ _ b (fun hHeld => ?_)
          clear hK K
          try simp only [Act.put, List.setIfInBounds_toArray, List.set_cons_zero, List.set_cons_succ]
          refine wpAnyH_ready (rs := [9]) (by kernel_rfl) (by simp) ?_
          refine AllReadyH.cons (by simp only [List.getElem?_toArray, List.getElem?_cons_succ, List.getElem?_cons_zero]; rfl) (fun K hK => ?_) AllReadyH.nil
          obtain ⟨z0, z1, z2, z3, i0', i1', i2', i3'⟩ := V.four
          go_simp
          skip
          have V2 := ((((V.set 0 (.int .i64 3)).set 1 (.int .i64 rs)).set 2 (.slice A6 (n + r) c6)).set 3 (.int .i64 la))
          simp only [List.setIfInBounds_toArray, List.set_cons_zero, List.set_cons_succ] at V2
          have N2 := (own_far (own_far (own_far (own_far N (a := ⟨kv, 0, none⟩) hneA (.int .i64 3)) (a := ⟨kv, 1, none⟩) hneA (.int .i64 rs)) (a := ⟨kv, 2, none⟩) hneA (.slice A6 (n + r) c6)) (a := ⟨kv, 3, none⟩) hneA (.int .i64 la))
          have b2 := ((((b.setCell (p := ⟨kv, 0, none⟩) hcv (.int .i64 3)).setCell (p := ⟨kv, 1, none⟩) hcv (.int .i64 rs)).setCell (p := ⟨kv, 2, none⟩) hcv (.slice A6 (n + r) c6)).setCell (p := ⟨kv, 3, none⟩) hcv (.int .i64 la))
          clear z0 z1 z2 z3 i0' i1' i2' i3'
          clear V N b
          generalize ((((w_8_3.setCell ⟨kv, 0, none⟩ (.int .i64 3)).setCell ⟨kv, 1, none⟩ (.int .i64 rs)).setCell ⟨kv, 2, none⟩ (.slice A6 (n + r) c6)).setCell ⟨kv, 3, none⟩ (.int .i64 la)) = w_9_4 at *
          have V := V2
          have N := N2
          have b := b2
          clear V2 N2 b2
          refine hK.out _ _ b (fun hHeld => ?_)
          clear hK K
          try simp only [Act.put, List.setIfInBounds_toArray, List.set_cons_zero, List.set_cons_succ]
          refine wpAnyH_take (i := 10) (v := ?_) (by simp only [List.getElem?_toArray, List.getElem?_cons_succ, List.getElem?_cons_zero]; rfl) (by kernel_rfl) (by kernel_rfl) (by kernel_rfl) (by intro _ _ _ h; exact nomatch h.1) (Or.inl ⟨by rfl, ?_⟩) hHeld ?_
          rotate_left 1
          · intro wq hSw
            try dsimp only at hSw
            go_simp
            try (with_reducible rfl)
          try simp only [Act.put, List.setIfInBounds_toArray, List.set_cons_zero, List.set_cons_succ]
          refine wpAnyH_done (by kernel_rfl) ?_ _
          refine ⟨rfl, kv, A6, c6, u46, ?_, V, N, b⟩
          with_reducible rfl
        · skip
          obtain ⟨kv, hkv⟩ : ∃ k, w_3_1.heap.size = k := ⟨_, rfl⟩
          go_simp
          try simp only [hkv]
          have V := Blk.new w_3_1 #[.int .i64 0, .int .i64 0, .slice none 0 0, .int .i64 0] 25
          rw [hkv] at V
          have hcv : W2.heap.size ≤ kv := by rw [← hkv]; exact b.size
          have hneU := own_ne O (Nat.le_of_eq hkv)
          replace O := World.ownsRow.alloc O (.cells #[.int .i64 0, .int .i64 0, .slice none 0 0, .int .i64 0] 25)
          skip
          replace b := b.alloc b.size (.cells #[.int .i64 0, .int .i64 0, .slice none 0 0, .int .i64 0] 25)
          generalize w_3_1.alloc (.cells #[.int .i64 0, .int .i64 0, .slice none 0 0, .int .i64 0] 25) = w_8_2 at *
          refine hK.out _ _ b (fun hHeld => ?_)
          clear hK K
          try simp only [Act.put, List.setIfInBounds_toArray, List.set_cons_zero, List.set_cons_succ]
          refine wpAnyH_ready (rs := [4]) (by kernel_rfl) (by simp) ?_
          refine AllReadyH.cons (by simp only [List.getElem?_toArray, List.getElem?_cons_succ, List.getElem?_cons_zero]; rfl) (fun K hK => ?_) AllReadyH.nil
          have hSl := sl_of_eq hu46 O
          have hC := zAppend_at st rs la size _ _ _ (List.replicate (r) 0) A n c l 3 0 (l ++ List.replicate r (0 : UInt8)) (n + r) w_8_2 (s0.below b) hSl (by omega) (by rw [appSt, e0, if_pos rfl, hfu]) (by rw [appDa, e0, if_pos rfl]) e0 hlen
          rw [hu46] at hC
          go_simp
          refine hC.mono ?_
          rintro e w_4_3 ⟨A6, c6, rfl, N, bC⟩
          go_wp2_with fail
          have hneA := nw_ne N V.lt
          replace V := V.under bC
          replace N := own_base N b.size
          replace b := b.trans (bC.mono b.size)
          clear hC
          refine hK.out _ _ b (fun hHeld => ?_)
          clear hK K
          try simp only [Act.put, List.setIfInBounds_toArray, List.set_cons_zero, List.set_cons_succ]
          refine wpAnyH_take (i := 5) (v := ?_) (by simp only [List.getElem?_toArray, List.getElem?_cons_succ, List.getElem?_cons_zero]; rfl) (by kernel_rfl) (by kernel_rfl) (by kernel_rfl) (by intro _ _ _ h; exact nomatch h.1) (Or.inl ⟨by rfl, ?_⟩) hHeld ?_
          rotate_left 1
          · intro wq hSw
            try dsimp only at hSw
            go_simp
            try (with_reducible rfl)
          try simp only [Act.put, List.setIfInBounds_toArray, List.set_cons_zero, List.set_cons_succ]
          refine wpAnyH_take (i := 6) (v := ?_) (by simp only [List.getElem?_toArray, List.getElem?_cons_succ, List.getElem?_cons_zero]; rfl) (by kernel_rfl) (by kernel_rfl) (by kernel_rfl) (by intro _ _ _ h; exact nomatch h.1) (Or.inl ⟨by rfl, ?_⟩) hHeld ?_
          rotate_left 1
          · intro wq hSw
            try dsimp only at hSw
            go_simp
            try (with_reducible rfl)
          try simp only [Act.put, List.setIfInBounds_toArray, List.set_cons_zero, List.set_cons_succ]
          refine wpAnyH_take (i := 7) (v := ?_) (by simp only [List.getElem?_toArray, List.getElem?_cons_succ, List.getElem?_cons_zero]; rfl) (by kernel_rfl) (by kernel_rfl) (by kernel_rfl) (by intro _ _ _ h; exact nomatch h.1) (Or.inl ⟨by rfl, ?_⟩) hHeld ?_
          rotate_left 1
          · intro wq hSw
            try dsimp only at hSw
            go_simp
            try (with_reducible rfl)
          try simp only [Act.put, List.setIfInBounds_toArray, List.set_cons_zero, List.set_cons_succ]
          refine wpAnyH_ready (rs := [9]) (by kernel_rfl) (by simp) ?_
          refine AllReadyH.cons (by simp only [List.getElem?_toArray, List.getElem?_cons_succ, List.getElem?_cons_zero]; rfl) (fun K hK => ?_) AllReadyH.nil
          obtain ⟨z0, z1, z2, z3, i0', i1', i2', i3'⟩ := V.four
          go_simp
          skip
          have V2 := ((((V.set 0 (.int .i64 3)).set 1 (.int .i64 rs)).set 2 (.slice A6 (n + r) c6)).set 3 (.int .i64 la))
          simp only [List.setIfInBounds_toArray, List.set_cons_zero, List.set_cons_succ] at V2
          have N2 := (own_far (own_far (own_far (own_far N (a := ⟨kv, 0, none⟩) hneA (.int .i64 3)) (a := ⟨kv, 1, none⟩) hneA (.int .i64 rs)) (a := ⟨kv, 2, none⟩) hneA (.slice A6 (n + r) c6)) (a := ⟨kv, 3, none⟩) hneA (.int .i64 la))
          have b2 := ((((b.setCell (p := ⟨kv, 0, none⟩) hcv (.int .i64 3)).setCell (p := ⟨kv, 1, none⟩) hcv (.int .i64 rs)).setCell (p := ⟨kv, 2, none⟩) hcv (.slice A6 (n + r) c6)).setCell (p := ⟨kv, 3, none⟩) hcv (.int .i64 la))
          clear z0 z1 z2 z3 i0' i1' i2' i3'
          clear V N b
          generalize ((((w_4_3.setCell ⟨kv, 0, none⟩ (.int .i64 3)).setCell ⟨kv, 1, none⟩ (.int .i64 rs)).setCell ⟨kv, 2, none⟩ (.slice A6 (n + r) c6)).setCell ⟨kv, 3, none⟩ (.int .i64 la)) = w_9_4 at *
          have V := V2
          have N := N2
          have b := b2
          clear V2 N2 b2
          refine hK.out _ _ b (fun hHeld => ?_)
          clear hK K
          try simp only [Act.put, List.setIfInBounds_toArray, List.set_cons_zero, List.set_cons_succ]
          refine wpAnyH_take (i := 10) (v := ?_) (by simp only [List.getElem?_toArray, List.getElem?_cons_succ, List.getElem?_cons_zero]; rfl) (by kernel_rfl) (by kernel_rfl) (by kernel_rfl) (by intro _ _ _ h; exact nomatch h.1) (Or.inl ⟨by rfl, ?_⟩) hHeld ?_
          rotate_left 1
          · intro wq hSw
            try dsimp only at hSw
            go_simp
            try (with_reducible rfl)
          try simp only [Act.put, List.setIfInBounds_toArray, List.set_cons_zero, List.set_cons_succ]
          refine wpAnyH_done (by kernel_rfl) ?_ _
          refine ⟨rfl, kv, A6, c6, u46, ?_, V, N, b⟩
          with_reducible rfl
      · skip
        obtain ⟨kv, hkv⟩ : ∃ k, wd.heap.size = k := ⟨_, rfl⟩
        go_simp
        try simp only [hkv]
        have V := Blk.new wd #[.int .i64 0, .int .i64 0, .slice none 0 0, .int .i64 0] 25
        rw [hkv] at V
        have hcv : W2.heap.size ≤ kv := by rw [← hkv]; exact b.size
        skip
        replace b := b.alloc b.size (.cells #[.int .i64 0, .int .i64 0, .slice none 0 0, .int .i64 0] 25)
        generalize wd.alloc (.cells #[.int .i64 0, .int .i64 0, .slice none 0 0, .int .i64 0] 25) = w_8_1 at *
        refine hK.out _ _ b (fun hHeld => ?_)
        clear hK K
        try simp only [Act.put, List.setIfInBounds_toArray, List.set_cons_zero, List.set_cons_succ]
        refine wpAnyH_ready (rs := [3]) (by kernel_rfl) (by simp) ?_
        refine AllReadyH.cons (by simp only [List.getElem?_toArray, List.getElem?_cons_succ, List.getElem?_cons_zero]; rfl) (fun K hK => ?_) AllReadyH.nil
        go_simp
        have O := made_own w_8_1 (.int .u8 0) 5 (r) (r) (Nat.le_refl _) (by omega) b.size
        rw [rep8] at O
        have hneU := slice_ne (r) V.lt
        replace V := V.alloc (.cells (mk0 (.int .u8 0) (r)) 5)
        replace b := b.alloc b.size (.cells (mk0 (.int .u8 0) (r)) 5)
        generalize hu46 : Value.slice (some ⟨w_8_1.heap.size, 0, none⟩) (r) (r) = u46 at *
        generalize w_8_1.alloc (.cells (mk0 (.int .u8 0) (r)) 5) = w_3_2 at *
        refine hK.out _ _ b (fun hHeld => ?_)
        clear hK K
        try simp only [Act.put, List.setIfInBounds_toArray, List.set_cons_zero, List.set_cons_succ]
        refine wpAnyH_ready (rs := [4]) (by kernel_rfl) (by simp) ?_
        refine AllReadyH.cons (by simp only [List.getElem?_toArray, List.getElem?_cons_succ, List.getElem?_cons_zero]; rfl) (fun K hK => ?_) AllReadyH.nil
        have hSl := sl_of_eq hu46 O
        have hC := zAppend_at st rs la size _ _ _ (List.replicate (r) 0) A n c l 3 0 (l ++ List.replicate r (0 : UInt8)) (n + r) w_3_2 (s0.below b) hSl (by omega) (by rw [appSt, e0, if_pos rfl, hfu]) (by rw [appDa, e0, if_pos rfl]) e0 hlen
        rw [hu46] at hC
        go_simp
        refine hC.mono ?_
        rintro e w_4_3 ⟨A6, c6, rfl, N, bC⟩
        go_wp2_with fail
        have hneA := nw_ne N V.lt
        replace V := V.under bC
        replace N := own_base N b.size
        replace b := b.trans (bC.mono b.size)
        clear hC
        refine hK.out _ _ b (fun hHeld => ?_)
        clear hK K
        try simp only [Act.put, List.setIfInBounds_toArray, List.set_cons_zero, List.set_cons_succ]
        refine wpAnyH_take (i := 5) (v := ?_) (by simp only [List.getElem?_toArray, List.getElem?_cons_succ, List.getElem?_cons_zero]; rfl) (by kernel_rfl) (by kernel_rfl) (by kernel_rfl) (by intro _ _ _ h; exact nomatch h.1) (Or.inl ⟨by rfl, ?_⟩) hHeld ?_
        rotate_left 1
        · intro wq hSw
          try dsimp only at hSw
          go_simp
          try (with_reducible rfl)
        try simp only [Act.put, List.setIfInBounds_toArray, List.set_cons_zero, List.set_cons_succ]
        refine wpAnyH_take (i := 6) (v := ?_) (by simp only [List.getElem?_toArray, List.getElem?_cons_succ, List.getElem?_cons_zero]; rfl) (by kernel_rfl) (by kernel_rfl) (by kernel_rfl) (by intro _ _ _ h; exact nomatch h.1) (Or.inl ⟨by rfl, ?_⟩) hHeld ?_
        rotate_left 1
        · intro wq hSw
          try dsimp only at hSw
          go_simp
          try (with_reducible rfl)
        try simp only [Act.put, List.setIfInBounds_toArray, List.set_cons_zero, List.set_cons_succ]
        refine wpAnyH_take (i := 7) (v := ?_) (by simp only [List.getElem?_toArray, List.getElem?_cons_succ, List.getElem?_cons_zero]; rfl) (by kernel_rfl) (by kernel_rfl) (by kernel_rfl) (by intro _ _ _ h; exact nomatch h.1) (Or.inl ⟨by rfl, ?_⟩) hHeld ?_
        rotate_left 1
        · intro wq hSw
          try dsimp only at hSw
          go_simp
          try (with_reducible rfl)
        try simp only [Act.put, List.setIfInBounds_toArray, List.set_cons_zero, List.set_cons_succ]
        refine wpAnyH_ready (rs := [9]) (by kernel_rfl) (by simp) ?_
        refine AllReadyH.cons (by simp only [List.getElem?_toArray, List.getElem?_cons_succ, List.getElem?_cons_zero]; rfl) (fun K hK => ?_) AllReadyH.nil
        obtain ⟨z0, z1, z2, z3, i0', i1', i2', i3'⟩ := V.four
        go_simp
        skip
        have V2 := ((((V.set 0 (.int .i64 3)).set 1 (.int .i64 rs)).set 2 (.slice A6 (n + r) c6)).set 3 (.int .i64 la))
        simp only [List.setIfInBounds_toArray, List.set_cons_zero, List.set_cons_succ] at V2
        have N2 := (own_far (own_far (own_far (own_far N (a := ⟨kv, 0, none⟩) hneA (.int .i64 3)) (a := ⟨kv, 1, none⟩) hneA (.int .i64 rs)) (a := ⟨kv, 2, none⟩) hneA (.slice A6 (n + r) c6)) (a := ⟨kv, 3, none⟩) hneA (.int .i64 la))
        have b2 := ((((b.setCell (p := ⟨kv, 0, none⟩) hcv (.int .i64 3)).setCell (p := ⟨kv, 1, none⟩) hcv (.int .i64 rs)).setCell (p := ⟨kv, 2, none⟩) hcv (.slice A6 (n + r) c6)).setCell (p := ⟨kv, 3, none⟩) hcv (.int .i64 la))
        clear z0 z1 z2 z3 i0' i1' i2' i3'
        clear V N b
        generalize ((((w_4_3.setCell ⟨kv, 0, none⟩ (.int .i64 3)).setCell ⟨kv, 1, none⟩ (.int .i64 rs)).setCell ⟨kv, 2, none⟩ (.slice A6 (n + r) c6)).setCell ⟨kv, 3, none⟩ (.int .i64 la)) = w_9_4 at *
        have V := V2
        have N := N2
        have b := b2
        clear V2 N2 b2
        refine hK.out _ _ b (fun hHeld => ?_)
        clear hK K
        try simp only [Act.put, List.setIfInBounds_toArray, List.set_cons_zero, List.set_cons_succ]
        refine wpAnyH_take (i := 10) (v := ?_) (by simp only [List.getElem?_toArray, List.getElem?_cons_succ, List.getElem?_cons_zero]; rfl) (by kernel_rfl) (by kernel_rfl) (by kernel_rfl) (by intro _ _ _ h; exact nomatch h.1) (Or.inl ⟨by rfl, ?_⟩) hHeld ?_
        rotate_left 1
        · intro wq hSw
          try dsimp only at hSw
          go_simp
          try (with_reducible rfl)
        try simp only [Act.put, List.setIfInBounds_toArray, List.set_cons_zero, List.set_cons_succ]
        refine wpAnyH_done (by kernel_rfl) ?_ _
        refine ⟨rfl, kv, A6, c6, u46, ?_, V, N, b⟩
        with_reducible rfl
    clear hmk e0 hfu
    rintro a w5 ⟨ky, A7, c7, u46, rfl, By, N7, b7⟩
    replace s0 := s0.below b7
    replace Bz := Bz.under b7
    replace Bv := Bv.under b7
    replace Bf := Bf.under b7
    replace bb := bb.trans (b7.mono bb.size)
    try dsimp only
    have s7 := N7.sl
    have hA7 : ∀ ad, A7 = some ad → ad.block ≠ w4.heap.size := fun ad hA e => by
      have h1 := N7.fr ad hA
      have h2 : w4.heap.size < W2.heap.size := hf4
      omega
    have Bf2 := ((((Bf.set 0 (.int .i64 3)).set 1 (.int .i64 rs)).set 2 (.slice A7 (n + r) c7)).set 3 (.int .i64 la))
    simp only [List.setIfInBounds_toArray, List.set_cons_zero, List.set_cons_succ] at Bf2
    have Bz2 := ((((Bz.far (a := ⟨w4.heap.size, 0, none⟩) (by simp; omega) (.int .i64 3)).far (a := ⟨w4.heap.size, 1, none⟩) (by simp; omega) (.int .i64 rs)).far (a := ⟨w4.heap.size, 2, none⟩) (by simp; omega) (.slice A7 (n + r) c7)).far (a := ⟨w4.heap.size, 3, none⟩) (by simp; omega) (.int .i64 la))
    have s72 := ((((s7.far (a := ⟨w4.heap.size, 0, none⟩) hA7 (.int .i64 3)).far (a := ⟨w4.heap.size, 1, none⟩) hA7 (.int .i64 rs)).far (a := ⟨w4.heap.size, 2, none⟩) hA7 (.slice A7 (n + r) c7)).far (a := ⟨w4.heap.size, 3, none⟩) hA7 (.int .i64 la))
    have bb2 := ((((bb.setCell (p := ⟨w4.heap.size, 0, none⟩) (by simp; omega) (.int .i64 3)).setCell (p := ⟨w4.heap.size, 1, none⟩) (by simp; omega) (.int .i64 rs)).setCell (p := ⟨w4.heap.size, 2, none⟩) (by simp; omega) (.slice A7 (n + r) c7)).setCell (p := ⟨w4.heap.size, 3, none⟩) (by simp; omega) (.int .i64 la))
    obtain ⟨Byq0, Byq1, Byq2, Byq3, Byr0, Byr1, Byr2, Byr3⟩ := By.four
    have Byl := By.lt
    obtain ⟨Bfq0, Bfq1, Bfq2, Bfq3, Bfr0, Bfr1, Bfr2, Bfr3⟩ := Bf.four
    have Bfl := Bf.lt
    obtain ⟨Bzq0, Bzq1, Bzq2, Bzq3, Bzr0, Bzr1, Bzr2, Bzr3⟩ := Bz.four
    have Bzl := Bz.lt
    have hsz : ((((w5.setCell ⟨w4.heap.size, 0, none⟩ (.int .i64 3)).setCell ⟨w4.heap.size, 1, none⟩ (.int .i64 rs)).setCell ⟨w4.heap.size, 2, none⟩ (.slice A7 (n + r) c7)).setCell ⟨w4.heap.size, 3, none⟩ (.int .i64 la)).heap.size = w5.heap.size := by simp [World.setCell]
    have lb := slB ((((w5.setCell ⟨w4.heap.size, 0, none⟩ (.int .i64 3)).setCell ⟨w4.heap.size, 1, none⟩ (.int .i64 rs)).setCell ⟨w4.heap.size, 2, none⟩ (.slice A7 (n + r) c7)).setCell ⟨w4.heap.size, 3, none⟩ (.int .i64 la)) [1] #[.int .u8 1] rfl (by decide)
    rw [hsz] at lb
    go_wp2_with fail
    replace Bf2 := Bf2.alloc (.cells #[.int .u8 1] 5)
    replace Bz2 := Bz2.alloc (.cells #[.int .u8 1] 5)
    replace s72 := s72.alloc (.cells #[.int .u8 1] 5)
    replace bb := bb2.alloc bb2.size (.cells #[.int .u8 1] 5)
    clear bb2
    clear Byq0 Byq1 Byq2 Byq3 Byr0 Byr1 Byr2 Byr3
    clear Bfq0 Bfq1 Bfq2 Bfq3 Bfr0 Bfr1 Bfr2 Bfr3
    clear Bzq0 Bzq1 Bzq2 Bzq3 Bzr0 Bzr1 Bzr2 Bzr3
    clear Bf By Bv Bz s0 hsz
    generalize ((((w5.setCell ⟨w4.heap.size, 0, none⟩ (.int .i64 3)).setCell ⟨w4.heap.size, 1, none⟩ (.int .i64 rs)).setCell ⟨w4.heap.size, 2, none⟩ (.slice A7 (n + r) c7)).setCell ⟨w4.heap.size, 3, none⟩ (.int .i64 la)).alloc (.cells #[.int .u8 1] 5) = W9 at *
    have Bz := Bz2
    clear Bz2
    have e30 : appErrF 3 rs (n + r : Nat) la size ((1 : Nat) : Int) = 30 := by
      rw [appErr_cases _ hck (by decide), room_val hck]
      simp
    have hC := zAppend_at 3 rs la size _ 1 1 [1] A7 (n + r) c7 (l ++ List.replicate r (0 : UInt8)) 3 30 (l ++ List.replicate r (0 : UInt8)) (n + r) W9 s72 lb (by omega) (by rw [appSt, e30]; simp) (by rw [appDa, e30]; simp) e30 hlen
    refine hC.mono ?_
    clear hC
    rintro e w8 ⟨A8, c8, rfl, N8, b8⟩
    replace Bf2 := Bf2.under b8
    replace s72 := s72.below b8
    replace lb := lb.below b8
    replace Bz := Bz.under b8
    replace bb := bb.trans (b8.mono bb.size)
    have s8 := N8.sl
    obtain ⟨Bf2q0, Bf2q1, Bf2q2, Bf2q3, Bf2r0, Bf2r1, Bf2r2, Bf2r3⟩ := Bf2.four
    have Bf2l := Bf2.lt
    replace Bf2 := Bf2.alloc (.cells #[.int .i64 3, .int .i64 rs, .slice A8 (n + r) c8, .int .i64 la] 25)
    replace s72 := s72.alloc (.cells #[.int .i64 3, .int .i64 rs, .slice A8 (n + r) c8, .int .i64 la] 25)
    replace lb := lb.alloc (.cells #[.int .i64 3, .int .i64 rs, .slice A8 (n + r) c8, .int .i64 la] 25)
    replace Bz := Bz.alloc (.cells #[.int .i64 3, .int .i64 rs, .slice A8 (n + r) c8, .int .i64 la] 25)
    replace s8 := s8.alloc (.cells #[.int .i64 3, .int .i64 rs, .slice A8 (n + r) c8, .int .i64 la] 25)
    replace bb := bb.alloc bb.size (.cells #[.int .i64 3, .int .i64 rs, .slice A8 (n + r) c8, .int .i64 la] 25)
    have Bh := Blk.new w8 #[.int .i64 3, .int .i64 rs, .slice A8 (n + r) c8, .int .i64 la] 25
    go_wp2_with fail
    clear Bf2q0 Bf2q1 Bf2q2 Bf2q3 Bf2r0 Bf2r1 Bf2r2 Bf2r3
    generalize (w8.alloc (.cells #[.int .i64 3, .int .i64 rs, .slice A8 (n + r) c8, .int .i64 la] 25)) = W3 at *
    cases hR : resB 3 rs
    · have hR' : Hid (resB 3 rs = false) := hR
      clear hR
      have hC := zReset_at 3 rs la A7 (n + r) c7 (l ++ List.replicate r (0 : UInt8)) 3 rs la 30 (l ++ List.replicate r (0 : UInt8)) (n + r) W3 s72 (by omega) (by simp [resSt, hR'.out]) (by simp [resRs, hR'.out]) (by simp [resDa, hR'.out]) (by simp [resLa, hR'.out]) (by simp [resEr, hR'.out]) hlen
      refine hC.mono ?_
      clear hC
      rintro e w9 ⟨A9, c9, rfl, N9, b9⟩
      replace Bf2 := Bf2.under b9
      replace s72 := s72.below b9
      replace lb := lb.below b9
      replace Bz := Bz.under b9
      replace s8 := s8.below b9
      replace Bh := Bh.under b9
      replace bb := bb.trans (b9.mono bb.size)
      have hrs : rs = 1073741824 := by have hx := hR'.out; have hy := hb'.out; simp [resB] at hx; omega
      subst hrs
      obtain ⟨Bf2q0, Bf2q1, Bf2q2, Bf2q3, Bf2r0, Bf2r1, Bf2r2, Bf2r3⟩ := Bf2.four
      have Bf2l := Bf2.lt
      obtain ⟨Bzq0, Bzq1, Bzq2, Bzq3, Bzr0, Bzr1, Bzr2, Bzr3⟩ := Bz.four
      have Bzl := Bz.lt
      go_wp2
      go_ret
      exact ⟨rfl, bb.alloc bb.size _⟩
    · have hR' : Hid (resB 3 rs = true) := hR
      clear hR
      have hC := zReset_at 3 rs la A7 (n + r) c7 (l ++ List.replicate r (0 : UInt8)) 0 (rs + 1) 0 0 [] 0 W3 s72 (by omega) (by simp [resSt, hR'.out]) (by simp [resRs, hR'.out]) (by simp [resDa, hR'.out]) (by simp [resLa, hR'.out]) (by simp [resEr, hR'.out]) rfl
      refine hC.mono ?_
      clear hC
      rintro e w9 ⟨A9, c9, rfl, N9, b9⟩
      replace Bf2 := Bf2.under b9
      replace s72 := s72.below b9
      replace lb := lb.below b9
      replace Bz := Bz.under b9
      replace s8 := s8.below b9
      replace Bh := Bh.under b9
      replace bb := bb.trans (b9.mono bb.size)
      have hrs : 0 ≤ rs ∧ rs < 1073741824 := by have hx := hR'.out; simp [resB] at hx; omega
      have hroom : Hid (roomF 0 (rs + 1) ((0 : Nat) : Int) 0 size = size) := by
        show roomF 0 (rs + 1) ((0 : Nat) : Int) 0 size = size
        have hx := hb'.out
        rw [room_val (by simp only [chkF, decide_eq_true_eq]; omega)]
        simp
      obtain ⟨Bf2q0, Bf2q1, Bf2q2, Bf2q3, Bf2r0, Bf2r1, Bf2r2, Bf2r3⟩ := Bf2.four
      have Bf2l := Bf2.lt
      obtain ⟨Bzq0, Bzq1, Bzq2, Bzq3, Bzr0, Bzr1, Bzr2, Bzr3⟩ := Bz.four
      have Bzl := Bz.lt
      replace Bf2 := Bf2.alloc (.cells #[.int .i64 0, .int .i64 (rs + 1), .slice A9 0 c9, .int .i64 0] 25)
      replace s72 := s72.alloc (.cells #[.int .i64 0, .int .i64 (rs + 1), .slice A9 0 c9, .int .i64 0] 25)
      replace lb := lb.alloc (.cells #[.int .i64 0, .int .i64 (rs + 1), .slice A9 0 c9, .int .i64 0] 25)
      replace Bz := Bz.alloc (.cells #[.int .i64 0, .int .i64 (rs + 1), .slice A9 0 c9, .int .i64 0] 25)
      replace s8 := s8.alloc (.cells #[.int .i64 0, .int .i64 (rs + 1), .slice A9 0 c9, .int .i64 0] 25)
      replace Bh := Bh.alloc (.cells #[.int .i64 0, .int .i64 (rs + 1), .slice A9 0 c9, .int .i64 0] 25)
      replace bb := bb.alloc bb.size (.cells #[.int .i64 0, .int .i64 (rs + 1), .slice A9 0 c9, .int .i64 0] 25)
      have Br := Blk.new w9 #[.int .i64 0, .int .i64 (rs + 1), .slice A9 0 c9, .int .i64 0] 25
      go_wp2_with fail
      clear Bf2q0 Bf2q1 Bf2q2 Bf2q3 Bf2r0 Bf2r1 Bf2r2 Bf2r3
      clear Bzq0 Bzq1 Bzq2 Bzq3 Bzr0 Bzr1 Bzr2 Bzr3
      generalize (w9.alloc (.cells #[.int .i64 0, .int .i64 (rs + 1), .slice A9 0 c9, .int .i64 0] 25)) = W4 at *
      have hC := zRoom_at 0 (rs + 1) 0 size A9 0 c9 size W4 hroom.out
      refine hC.mono ?_
      clear hC
      rintro e w10 ⟨rfl, b10⟩
      replace Bf2 := Bf2.under b10
      replace s72 := s72.below b10
      replace lb := lb.below b10
      replace Bz := Bz.under b10
      replace s8 := s8.below b10
      replace Bh := Bh.under b10
      replace Br := Br.under b10
      replace bb := bb.trans (b10.mono bb.size)
      obtain ⟨Bf2q0, Bf2q1, Bf2q2, Bf2q3, Bf2r0, Bf2r1, Bf2r2, Bf2r3⟩ := Bf2.four
      have Bf2l := Bf2.lt
      obtain ⟨Bzq0, Bzq1, Bzq2, Bzq3, Bzr0, Bzr1, Bzr2, Bzr3⟩ := Bz.four
      have Bzl := Bz.lt
      go_wp2
      go_ret
      exact ⟨rfl, bb⟩

theorem ZoneRoom_walk (a0_0 : Int) (a0_1 : Int) (a0_2 : Option Addr) (len0_2 cap0_2 : Nat) (z0_2 : List Int) (a0_3 : Int) (a1 : Int) (w : World) (w0_0 : (Lit.int .i64 a0_0).wf = true) (w0_1 : (Lit.int .i64 a0_1).wf = true) (w0_2 : IsRow .u8 w a0_2 len0_2 cap0_2 z0_2) (w0_3 : (Lit.int .i64 a0_3).wf = true) (w1 : (Lit.int .i64 a1).wf = true) :
    Calls Try.prog 7 #[.agg #[.int .i64 a0_0, .int .i64 a0_1, .slice a0_2 len0_2 cap0_2, .int .i64 a0_3], .int .i64 a1] w (AwakePost w) := by
  obtain ⟨l0_2, s0_2⟩ := w0_2.bytes
  exact ZoneRoom_core a0_0 a0_1 a0_3 a1 a0_2 len0_2 cap0_2 l0_2 w s0_2
end Go.Proofs.Ytepknniflkmjnaa
