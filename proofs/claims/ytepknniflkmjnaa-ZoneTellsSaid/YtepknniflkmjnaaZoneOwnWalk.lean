/-
  ZoneOwn: the walk (written by gen_zoneown.py).
-/
import Derived.Test.YtepknniflkmjnaaZoneClosesWalk
import Derived.Test.YtepknniflkmjnaaStore
import Derived.Deep.LoopGhost

namespace Go.Proofs.Ytepknniflkmjnaa
open Go.RowKit Go.Wag
set_option linter.unusedVariables false

theorem app_zero {st rs n la size m : Int} (h : appErrF st rs n la size m = 0) : chkF st rs n la size = true ∧ m ≠ 0 := by
  unfold appErrF at h
  by_cases hc : chkF st rs n la size = true ∧ m ≠ 0
  · exact hc
  · rw [if_neg hc] at h
    cases h
theorem app_first {st rs n la size m k : Int} (hm : 0 < m) (hk : 0 ≤ k) (h : appErrF st rs n la size (m + k) = 0) : appErrF st rs n la size m = 0 := by
  obtain ⟨hc, h0⟩ := app_zero h
  rw [appErr_cases _ hc h0] at h
  rw [appErr_cases _ hc (by omega), if_pos]
  by_cases hle : m + k ≤ roomF st rs n la size
  · omega
  · rw [if_neg hle] at h
    cases h
theorem xor255 (x : UInt8) : bits .xor .u8 (x.toNat : Int) 255 = ((x ^^^ 255).toNat : Int) := by
  have h := u8_xor_nat x.toNat 255 x.toNat_lt (by decide)
  rw [UInt8.toNat_xor]
  exact h

set_option maxRecDepth 100000 in
set_option maxHeartbeats 4000000 in
theorem ZoneOwn_core (st rs la size : Int) (A : Option Addr) (n c : Nat) (l : List UInt8) (A2 : Option Addr) (n2 c2 : Nat) (l2 : List UInt8) (A3 : Option Addr) (n3 c3 : Nat) (l3 : List UInt8) (w : World)
    (s0 : Sl w A n c (l.map v8)) (s2 : Sl w A2 n2 c2 (l2.map v8)) (s3 : Sl w A3 n3 c3 (l3.map v8)) :
    Calls Try.prog 6 #[.agg #[.int .i64 st, .int .i64 rs, .slice A n c, .int .i64 la], .int .i64 size, .slice A2 n2 c2, .slice A3 n3 c3] w (AwakePost w) := by
  obtain ⟨i0, hi, hz0, hz1, hz2⟩ := info_parts i5
  have hl0 : Hid (l.length = n) := s0.len8
  have hl2 : Hid (l2.length = n2) := s2.len8
  have hl3 : Hid (l3.length = n3) := s3.len8
  have bb := Below.refl w.heap.size w
  go_enter Try.func6, Try.ntmps6
  replace s0 := s0.alloc (.cells #[.int .i64 st, .int .i64 rs, .slice A n c, .int .i64 la] 25)
  replace s2 := s2.alloc (.cells #[.int .i64 st, .int .i64 rs, .slice A n c, .int .i64 la] 25)
  replace s3 := s3.alloc (.cells #[.int .i64 st, .int .i64 rs, .slice A n c, .int .i64 la] 25)
  replace bb := bb.alloc bb.size (.cells #[.int .i64 st, .int .i64 rs, .slice A n c, .int .i64 la] 25)
  have Bz := Blk.new w #[.int .i64 st, .int .i64 rs, .slice A n c, .int .i64 la] 25
  go_wp2_with fail
  generalize (w.alloc (.cells #[.int .i64 st, .int .i64 rs, .slice A n c, .int .i64 la] 25)) = W1 at *
  have hC := awake3_any W1
  refine hC.mono ?_
  clear hC
  rintro e w1 ⟨rfl, ba⟩
  replace s0 := s0.below ba
  replace s2 := s2.below ba
  replace s3 := s3.below ba
  replace Bz := Bz.under ba
  replace bb := bb.trans (ba.mono bb.size)
  by_cases hbad : 300 < (n : Int) ∨ 300 < (n2 : Int) ∨ 300 < (n3 : Int)
  · obtain ⟨z0, z1, z2, z3, _⟩ := Bz.four
    go_wp2_with fail
    all_goals first
      | (go_ret; exact ⟨rfl, bb⟩)
      | (exfalso; go_tidy; simp_all; omega)
  have hb1 : (n : Int) ≤ 300 ∧ (n2 : Int) ≤ 300 ∧ (n3 : Int) ≤ 300 := by omega
  clear hbad
  obtain ⟨h1, h3, h5⟩ := hb1
  have q0 := str_of s0
  obtain ⟨erx, herx⟩ : ∃ x, Hid (appErrF st rs n la size ((n2 + n3 : Nat) : Int) = x) := ⟨_, rfl⟩
  obtain ⟨stx, hstx⟩ : ∃ x, Hid (appSt st rs n la size ((n2 + n3 : Nat) : Int) = x) := ⟨_, rfl⟩
  obtain ⟨lx, hlx⟩ : ∃ x, Hid (appDa st rs n la size ((n2 + n3 : Nat) : Int) l (l2 ++ l3) = x) := ⟨_, rfl⟩
  obtain ⟨mx, hmx⟩ : ∃ x, Hid (lx.length = x) := ⟨_, rfl⟩
  obtain ⟨Bzq0, Bzq1, Bzq2, Bzq3, Bzr0, Bzr1, Bzr2, Bzr3⟩ := Bz.four
  have Bzl := Bz.lt
  go_wp2_with fail
  clear Bzq0 Bzq1 Bzq2 Bzq3 Bzr0 Bzr1 Bzr2 Bzr3
  clear q0
  refine region_join (α := Nat → Option Addr → Nat → Value → Value → Value → Act) (R := fun T a w' => ∃ kv A6 c6 u41 u43 u45, a = T kv A6 c6 u41 u43 u45 ∧ Blk w' kv #[.int .i64 stx, .int .i64 rs, .slice A6 mx c6, .int .i64 la] 25 ∧ Sl w' A6 mx c6 (lx.map v8) ∧ Below w1.heap.size w1 w') ?TA ?bodyA ?restA
  case bodyA =>
    refine wp_region_held_drew (S := fun w' => Below w1.heap.size w1 w') (by kernel_rfl) (Below.refl _ _).drew (fun hHeld => ?_)
    have b := hHeld
    generalize w1.drew = wd at *
    try simp only [Act.put, List.setIfInBounds_toArray, List.set_cons_zero, List.set_cons_succ]
    refine wpAnyH_take (i := 0) (v := ?_) (by simp only [List.getElem?_toArray, List.getElem?_cons_zero]; rfl) (by kernel_rfl) (by kernel_rfl) (by kernel_rfl) (by intro _ _ _ h; exact nomatch h.1) (Or.inl ⟨by rfl, ?_⟩) hHeld ?_
    rotate_left 1
    · intro wq hSw
      try dsimp only at hSw
      obtain ⟨x0, x1, x2, x3, _⟩ := (Bz.under hSw).four
      go_simp
      try (with_reducible rfl)
    try simp only [Act.put, List.setIfInBounds_toArray, List.set_cons_zero, List.set_cons_succ]
    refine wpAnyH_take (i := 1) (v := ?_) (by simp only [List.getElem?_toArray, List.getElem?_cons_succ, List.getElem?_cons_zero]; rfl) (by kernel_rfl) (by kernel_rfl) (by kernel_rfl) (by intro _ _ _ h; exact nomatch h.1) (Or.inl ⟨by rfl, ?_⟩) hHeld ?_
    rotate_left 1
    · intro wq hSw
      try dsimp only at hSw
      go_simp
      try (with_reducible rfl)
    try simp only [Act.put, List.setIfInBounds_toArray, List.set_cons_zero, List.set_cons_succ]
    refine wpAnyH_take (i := 3) (v := ?_) (by simp only [List.getElem?_toArray, List.getElem?_cons_succ, List.getElem?_cons_zero]; rfl) (by kernel_rfl) (by kernel_rfl) (by kernel_rfl) (by intro _ _ _ h; exact nomatch h.1) (Or.inl ⟨by rfl, ?_⟩) hHeld ?_
    rotate_left 1
    · intro wq hSw
      try dsimp only at hSw
      go_simp
      try (with_reducible rfl)
    try simp only [Act.put, List.setIfInBounds_toArray, List.set_cons_zero, List.set_cons_succ]
    refine wpAnyH_take (i := 5) (v := ?_) (by simp only [List.getElem?_toArray, List.getElem?_cons_succ, List.getElem?_cons_zero]; rfl) (by kernel_rfl) (by kernel_rfl) (by kernel_rfl) (by intro _ _ _ h; exact nomatch h.1) (Or.inl ⟨by rfl, ?_⟩) hHeld ?_
    rotate_left 1
    · intro wq hSw
      try dsimp only at hSw
      go_simp
      try (with_reducible rfl)
    try simp only [Act.put, List.setIfInBounds_toArray, List.set_cons_zero, List.set_cons_succ]
    refine wpAnyH_ready (rs := [2, 11]) (by kernel_rfl) (by simp) ?_
    refine AllReadyH.cons (by simp only [List.getElem?_toArray, List.getElem?_cons_succ, List.getElem?_cons_zero]; rfl) (fun K hK => ?_) (AllReadyH.cons (by simp only [List.getElem?_toArray, List.getElem?_cons_succ, List.getElem?_cons_zero]; rfl) (fun K hK => ?_) AllReadyH.nil)
    · skip
      go_simp
      have O := built_own wd #[] 5 [] 0 rfl rfl (by decide) b.size
      replace b := b.alloc b.size (.cells #[] 5)
      generalize hu41 : Value.slice (some ⟨wd.heap.size, 0, none⟩) 0 0 = u41 at *
      generalize wd.alloc (.cells #[] 5) = w_2_1 at *
      refine hK.out _ _ b (fun hHeld => ?_)
      clear hK K
      try simp only [Act.put, List.setIfInBounds_toArray, List.set_cons_zero, List.set_cons_succ]
      refine wpAnyH_ready (rs := [4, 11]) (by kernel_rfl) (by simp) ?_
      refine AllReadyH.cons (by simp only [List.getElem?_toArray, List.getElem?_cons_succ, List.getElem?_cons_zero]; rfl) (fun K hK => ?_) (AllReadyH.cons (by simp only [List.getElem?_toArray, List.getElem?_cons_succ, List.getElem?_cons_zero]; rfl) (fun K hK => ?_) AllReadyH.nil)
      · skip
        obtain ⟨Ar, cr, w_4_2, hr, hO⟩ := run_app (P := Try.prog) (Own.start O b.size) 23 23 i0 (.int .u8 0) 1 Try.underlying23 hi hz0 hz1 hz2 rfl _ _ _ _ (s2.below b) (oneCell8 _) (by omega) (by omega)
        refine (if_pos (by rfl)).mpr (wp_app (Operand.tmp 41) (Operand.tmp 42) 23 rfl rfl rfl hr ?_)
        try simp only [Act.put, List.setIfInBounds_toArray, List.set_cons_zero, List.set_cons_succ]
        replace b := own_below O hO b
        replace O := hO.own
        generalize hu43 : Value.slice Ar (0 + n2) cr = u43 at *
        clear hr hO
        refine hK.out _ _ b (fun hHeld => ?_)
        clear hK K
        try simp only [Act.put, List.setIfInBounds_toArray, List.set_cons_zero, List.set_cons_succ]
        refine wpAnyH_ready (rs := [6, 11]) (by kernel_rfl) (by simp) ?_
        refine AllReadyH.cons (by simp only [List.getElem?_toArray, List.getElem?_cons_succ, List.getElem?_cons_zero]; rfl) (fun K hK => ?_) (AllReadyH.cons (by simp only [List.getElem?_toArray, List.getElem?_cons_succ, List.getElem?_cons_zero]; rfl) (fun K hK => ?_) AllReadyH.nil)
        · skip
          obtain ⟨Ar, cr, w_6_3, hr, hO⟩ := run_app (P := Try.prog) (Own.start O b.size) 23 23 i0 (.int .u8 0) 1 Try.underlying23 hi hz0 hz1 hz2 rfl _ _ _ _ (s3.below b) (oneCell8 _) (by omega) (by omega)
          refine (if_pos (by rfl)).mpr (wp_app (Operand.tmp 43) (Operand.tmp 44) 23 rfl rfl rfl hr ?_)
          try simp only [Act.put, List.setIfInBounds_toArray, List.set_cons_zero, List.set_cons_succ]
          replace b := own_below O hO b
          replace O := hO.own
          rw [List.nil_append, ← List.map_append] at O
          generalize hu45 : Value.slice Ar (0 + n2 + n3) cr = u45 at *
          clear hr hO
          refine hK.out _ _ b (fun hHeld => ?_)
          clear hK K
          try simp only [Act.put, List.setIfInBounds_toArray, List.set_cons_zero, List.set_cons_succ]
          refine wpAnyH_ready (rs := [7, 11]) (by kernel_rfl) (by simp) ?_
          refine AllReadyH.cons (by simp only [List.getElem?_toArray, List.getElem?_cons_succ, List.getElem?_cons_zero]; rfl) (fun K hK => ?_) (AllReadyH.cons (by simp only [List.getElem?_toArray, List.getElem?_cons_succ, List.getElem?_cons_zero]; rfl) (fun K hK => ?_) AllReadyH.nil)
          · skip
            have hSl := sl_of_eq hu45 O
            have hC := zAppend_at st rs la size _ _ _ (l2 ++ l3) A n c l stx erx lx mx w_6_3 (s0.below b) hSl (by omega) (by simpa using hstx.out) (by simpa using hlx.out) (by simpa using herx.out) hmx.out
            rw [hu45] at hC
            go_simp
            refine hC.mono ?_
            rintro e w_7_4 ⟨A6, c6, rfl, N, bC⟩
            go_wp2_with fail
            replace N := own_base N b.size
            replace b := b.trans (bC.mono b.size)
            clear hC
            refine hK.out _ _ b (fun hHeld => ?_)
            clear hK K
            try simp only [Act.put, List.setIfInBounds_toArray, List.set_cons_zero, List.set_cons_succ]
            refine wpAnyH_take (i := 8) (v := ?_) (by simp only [List.getElem?_toArray, List.getElem?_cons_succ, List.getElem?_cons_zero]; rfl) (by kernel_rfl) (by kernel_rfl) (by kernel_rfl) (by intro _ _ _ h; exact nomatch h.1) (Or.inl ⟨by rfl, ?_⟩) hHeld ?_
            rotate_left 1
            · intro wq hSw
              try dsimp only at hSw
              go_simp
              try (with_reducible rfl)
            try simp only [Act.put, List.setIfInBounds_toArray, List.set_cons_zero, List.set_cons_succ]
            refine wpAnyH_take (i := 9) (v := ?_) (by simp only [List.getElem?_toArray, List.getElem?_cons_succ, List.getElem?_cons_zero]; rfl) (by kernel_rfl) (by kernel_rfl) (by kernel_rfl) (by intro _ _ _ h; exact nomatch h.1) (Or.inl ⟨by rfl, ?_⟩) hHeld ?_
            rotate_left 1
            · intro wq hSw
              try dsimp only at hSw
              go_simp
              try (with_reducible rfl)
            try simp only [Act.put, List.setIfInBounds_toArray, List.set_cons_zero, List.set_cons_succ]
            refine wpAnyH_take (i := 10) (v := ?_) (by simp only [List.getElem?_toArray, List.getElem?_cons_succ, List.getElem?_cons_zero]; rfl) (by kernel_rfl) (by kernel_rfl) (by kernel_rfl) (by intro _ _ _ h; exact nomatch h.1) (Or.inl ⟨by rfl, ?_⟩) hHeld ?_
            rotate_left 1
            · intro wq hSw
              try dsimp only at hSw
              go_simp
              try (with_reducible rfl)
            try simp only [Act.put, List.setIfInBounds_toArray, List.set_cons_zero, List.set_cons_succ]
            refine wpAnyH_ready (rs := [11]) (by kernel_rfl) (by simp) ?_
            refine AllReadyH.cons (by simp only [List.getElem?_toArray, List.getElem?_cons_succ, List.getElem?_cons_zero]; rfl) (fun K hK => ?_) AllReadyH.nil
            obtain ⟨kv, hkv⟩ : ∃ k, w_7_4.heap.size = k := ⟨_, rfl⟩
            go_simp
            try simp only [hkv]
            have V := Blk.new w_7_4 #[.int .i64 0, .int .i64 0, .slice none 0 0, .int .i64 0] 25
            rw [hkv] at V
            have hcv : w1.heap.size ≤ kv := by rw [← hkv]; exact b.size
            have hneA := ownA_ne N (Nat.le_of_eq hkv)
            replace N := World.ownsRow.alloc N (.cells #[.int .i64 0, .int .i64 0, .slice none 0 0, .int .i64 0] 25)
            skip
            replace b := b.alloc b.size (.cells #[.int .i64 0, .int .i64 0, .slice none 0 0, .int .i64 0] 25)
            generalize w_7_4.alloc (.cells #[.int .i64 0, .int .i64 0, .slice none 0 0, .int .i64 0] 25) = w_11_5 at *
            refine hK.out _ _ b (fun hHeld => ?_)
            clear hK K
            try simp only [Act.put, List.setIfInBounds_toArray, List.set_cons_zero, List.set_cons_succ]
            refine wpAnyH_ready (rs := [12]) (by kernel_rfl) (by simp) ?_
            refine AllReadyH.cons (by simp only [List.getElem?_toArray, List.getElem?_cons_succ, List.getElem?_cons_zero]; rfl) (fun K hK => ?_) AllReadyH.nil
            obtain ⟨z0, z1, z2, z3, i0', i1', i2', i3'⟩ := V.four
            go_simp
            skip
            have V2 := ((((V.set 0 (.int .i64 stx)).set 1 (.int .i64 rs)).set 2 (.slice A6 mx c6)).set 3 (.int .i64 la))
            simp only [List.setIfInBounds_toArray, List.set_cons_zero, List.set_cons_succ] at V2
            have N2 := (own_far (own_far (own_far (own_far N (a := ⟨kv, 0, none⟩) hneA (.int .i64 stx)) (a := ⟨kv, 1, none⟩) hneA (.int .i64 rs)) (a := ⟨kv, 2, none⟩) hneA (.slice A6 mx c6)) (a := ⟨kv, 3, none⟩) hneA (.int .i64 la))
            have b2 := ((((b.setCell (p := ⟨kv, 0, none⟩) hcv (.int .i64 stx)).setCell (p := ⟨kv, 1, none⟩) hcv (.int .i64 rs)).setCell (p := ⟨kv, 2, none⟩) hcv (.slice A6 mx c6)).setCell (p := ⟨kv, 3, none⟩) hcv (.int .i64 la))
            clear z0 z1 z2 z3 i0' i1' i2' i3'
            clear V N b
            generalize ((((w_11_5.setCell ⟨kv, 0, none⟩ (.int .i64 stx)).setCell ⟨kv, 1, none⟩ (.int .i64 rs)).setCell ⟨kv, 2, none⟩ (.slice A6 mx c6)).setCell ⟨kv, 3, none⟩ (.int .i64 la)) = w_12_6 at *
            have V := V2
            have N := N2
            have b := b2
            clear V2 N2 b2
            refine hK.out _ _ b (fun hHeld => ?_)
            clear hK K
            try simp only [Act.put, List.setIfInBounds_toArray, List.set_cons_zero, List.set_cons_succ]
            refine wpAnyH_take (i := 13) (v := ?_) (by simp only [List.getElem?_toArray, List.getElem?_cons_succ, List.getElem?_cons_zero]; rfl) (by kernel_rfl) (by kernel_rfl) (by kernel_rfl) (by intro _ _ _ h; exact nomatch h.1) (Or.inl ⟨by rfl, ?_⟩) hHeld ?_
            rotate_left 1
            · intro wq hSw
              try dsimp only at hSw
              go_simp
              try (with_reducible rfl)
            try simp only [Act.put, List.setIfInBounds_toArray, List.set_cons_zero, List.set_cons_succ]
            refine wpAnyH_done (by kernel_rfl) ?_ _
            refine ⟨rfl, kv, A6, c6, u41, u43, u45, ?_, V, Sl.of_own N, b⟩
            with_reducible rfl
          · skip
            obtain ⟨kv, hkv⟩ : ∃ k, w_6_3.heap.size = k := ⟨_, rfl⟩
            go_simp
            try simp only [hkv]
            have V := Blk.new w_6_3 #[.int .i64 0, .int .i64 0, .slice none 0 0, .int .i64 0] 25
            rw [hkv] at V
            have hcv : w1.heap.size ≤ kv := by rw [← hkv]; exact b.size
            have hneU := own_ne O (Nat.le_of_eq hkv)
            replace O := World.ownsRow.alloc O (.cells #[.int .i64 0, .int .i64 0, .slice none 0 0, .int .i64 0] 25)
            skip
            replace b := b.alloc b.size (.cells #[.int .i64 0, .int .i64 0, .slice none 0 0, .int .i64 0] 25)
            generalize w_6_3.alloc (.cells #[.int .i64 0, .int .i64 0, .slice none 0 0, .int .i64 0] 25) = w_11_4 at *
            refine hK.out _ _ b (fun hHeld => ?_)
            clear hK K
            try simp only [Act.put, List.setIfInBounds_toArray, List.set_cons_zero, List.set_cons_succ]
            refine wpAnyH_ready (rs := [7]) (by kernel_rfl) (by simp) ?_
            refine AllReadyH.cons (by simp only [List.getElem?_toArray, List.getElem?_cons_succ, List.getElem?_cons_zero]; rfl) (fun K hK => ?_) AllReadyH.nil
            have hSl := sl_of_eq hu45 O
            have hC := zAppend_at st rs la size _ _ _ (l2 ++ l3) A n c l stx erx lx mx w_11_4 (s0.below b) hSl (by omega) (by simpa using hstx.out) (by simpa using hlx.out) (by simpa using herx.out) hmx.out
            rw [hu45] at hC
            go_simp
            refine hC.mono ?_
            rintro e w_7_5 ⟨A6, c6, rfl, N, bC⟩
            go_wp2_with fail
            have hneA := nw_ne N V.lt
            replace V := V.under bC
            replace N := own_base N b.size
            replace b := b.trans (bC.mono b.size)
            clear hC
            refine hK.out _ _ b (fun hHeld => ?_)
            clear hK K
            try simp only [Act.put, List.setIfInBounds_toArray, List.set_cons_zero, List.set_cons_succ]
            refine wpAnyH_take (i := 8) (v := ?_) (by simp only [List.getElem?_toArray, List.getElem?_cons_succ, List.getElem?_cons_zero]; rfl) (by kernel_rfl) (by kernel_rfl) (by kernel_rfl) (by intro _ _ _ h; exact nomatch h.1) (Or.inl ⟨by rfl, ?_⟩) hHeld ?_
            rotate_left 1
            · intro wq hSw
              try dsimp only at hSw
              go_simp
              try (with_reducible rfl)
            try simp only [Act.put, List.setIfInBounds_toArray, List.set_cons_zero, List.set_cons_succ]
            refine wpAnyH_take (i := 9) (v := ?_) (by simp only [List.getElem?_toArray, List.getElem?_cons_succ, List.getElem?_cons_zero]; rfl) (by kernel_rfl) (by kernel_rfl) (by kernel_rfl) (by intro _ _ _ h; exact nomatch h.1) (Or.inl ⟨by rfl, ?_⟩) hHeld ?_
            rotate_left 1
            · intro wq hSw
              try dsimp only at hSw
              go_simp
              try (with_reducible rfl)
            try simp only [Act.put, List.setIfInBounds_toArray, List.set_cons_zero, List.set_cons_succ]
            refine wpAnyH_take (i := 10) (v := ?_) (by simp only [List.getElem?_toArray, List.getElem?_cons_succ, List.getElem?_cons_zero]; rfl) (by kernel_rfl) (by kernel_rfl) (by kernel_rfl) (by intro _ _ _ h; exact nomatch h.1) (Or.inl ⟨by rfl, ?_⟩) hHeld ?_
            rotate_left 1
            · intro wq hSw
              try dsimp only at hSw
              go_simp
              try (with_reducible rfl)
            try simp only [Act.put, List.setIfInBounds_toArray, List.set_cons_zero, List.set_cons_succ]
            refine wpAnyH_ready (rs := [12]) (by kernel_rfl) (by simp) ?_
            refine AllReadyH.cons (by simp only [List.getElem?_toArray, List.getElem?_cons_succ, List.getElem?_cons_zero]; rfl) (fun K hK => ?_) AllReadyH.nil
            obtain ⟨z0, z1, z2, z3, i0', i1', i2', i3'⟩ := V.four
            go_simp
            skip
            have V2 := ((((V.set 0 (.int .i64 stx)).set 1 (.int .i64 rs)).set 2 (.slice A6 mx c6)).set 3 (.int .i64 la))
            simp only [List.setIfInBounds_toArray, List.set_cons_zero, List.set_cons_succ] at V2
            have N2 := (own_far (own_far (own_far (own_far N (a := ⟨kv, 0, none⟩) hneA (.int .i64 stx)) (a := ⟨kv, 1, none⟩) hneA (.int .i64 rs)) (a := ⟨kv, 2, none⟩) hneA (.slice A6 mx c6)) (a := ⟨kv, 3, none⟩) hneA (.int .i64 la))
            have b2 := ((((b.setCell (p := ⟨kv, 0, none⟩) hcv (.int .i64 stx)).setCell (p := ⟨kv, 1, none⟩) hcv (.int .i64 rs)).setCell (p := ⟨kv, 2, none⟩) hcv (.slice A6 mx c6)).setCell (p := ⟨kv, 3, none⟩) hcv (.int .i64 la))
            clear z0 z1 z2 z3 i0' i1' i2' i3'
            clear V N b
            generalize ((((w_7_5.setCell ⟨kv, 0, none⟩ (.int .i64 stx)).setCell ⟨kv, 1, none⟩ (.int .i64 rs)).setCell ⟨kv, 2, none⟩ (.slice A6 mx c6)).setCell ⟨kv, 3, none⟩ (.int .i64 la)) = w_12_6 at *
            have V := V2
            have N := N2
            have b := b2
            clear V2 N2 b2
            refine hK.out _ _ b (fun hHeld => ?_)
            clear hK K
            try simp only [Act.put, List.setIfInBounds_toArray, List.set_cons_zero, List.set_cons_succ]
            refine wpAnyH_take (i := 13) (v := ?_) (by simp only [List.getElem?_toArray, List.getElem?_cons_succ, List.getElem?_cons_zero]; rfl) (by kernel_rfl) (by kernel_rfl) (by kernel_rfl) (by intro _ _ _ h; exact nomatch h.1) (Or.inl ⟨by rfl, ?_⟩) hHeld ?_
            rotate_left 1
            · intro wq hSw
              try dsimp only at hSw
              go_simp
              try (with_reducible rfl)
            try simp only [Act.put, List.setIfInBounds_toArray, List.set_cons_zero, List.set_cons_succ]
            refine wpAnyH_done (by kernel_rfl) ?_ _
            refine ⟨rfl, kv, A6, c6, u41, u43, u45, ?_, V, Sl.of_own N, b⟩
            with_reducible rfl
        · skip
          obtain ⟨kv, hkv⟩ : ∃ k, w_4_2.heap.size = k := ⟨_, rfl⟩
          go_simp
          try simp only [hkv]
          have V := Blk.new w_4_2 #[.int .i64 0, .int .i64 0, .slice none 0 0, .int .i64 0] 25
          rw [hkv] at V
          have hcv : w1.heap.size ≤ kv := by rw [← hkv]; exact b.size
          have hneU := own_ne O (Nat.le_of_eq hkv)
          replace O := World.ownsRow.alloc O (.cells #[.int .i64 0, .int .i64 0, .slice none 0 0, .int .i64 0] 25)
          skip
          replace b := b.alloc b.size (.cells #[.int .i64 0, .int .i64 0, .slice none 0 0, .int .i64 0] 25)
          generalize w_4_2.alloc (.cells #[.int .i64 0, .int .i64 0, .slice none 0 0, .int .i64 0] 25) = w_11_3 at *
          refine hK.out _ _ b (fun hHeld => ?_)
          clear hK K
          try simp only [Act.put, List.setIfInBounds_toArray, List.set_cons_zero, List.set_cons_succ]
          refine wpAnyH_ready (rs := [6]) (by kernel_rfl) (by simp) ?_
          refine AllReadyH.cons (by simp only [List.getElem?_toArray, List.getElem?_cons_succ, List.getElem?_cons_zero]; rfl) (fun K hK => ?_) AllReadyH.nil
          obtain ⟨Ar, cr, w_6_4, hr, hO⟩ := run_app (P := Try.prog) (Own.start O b.size) 23 23 i0 (.int .u8 0) 1 Try.underlying23 hi hz0 hz1 hz2 rfl _ _ _ _ (s3.below b) (oneCell8 _) (by omega) (by omega)
          refine (if_pos (by rfl)).mpr (wp_app (Operand.tmp 43) (Operand.tmp 44) 23 rfl rfl rfl hr ?_)
          try simp only [Act.put, List.setIfInBounds_toArray, List.set_cons_zero, List.set_cons_succ]
          have hneU2 := own_ne_step hO hneU V.lt
          replace V := V.own hO hneU
          replace hneU := hneU2
          clear hneU2
          replace b := own_below O hO b
          replace O := hO.own
          rw [List.nil_append, ← List.map_append] at O
          generalize hu45 : Value.slice Ar (0 + n2 + n3) cr = u45 at *
          clear hr hO
          refine hK.out _ _ b (fun hHeld => ?_)
          clear hK K
          try simp only [Act.put, List.setIfInBounds_toArray, List.set_cons_zero, List.set_cons_succ]
          refine wpAnyH_ready (rs := [7]) (by kernel_rfl) (by simp) ?_
          refine AllReadyH.cons (by simp only [List.getElem?_toArray, List.getElem?_cons_succ, List.getElem?_cons_zero]; rfl) (fun K hK => ?_) AllReadyH.nil
          have hSl := sl_of_eq hu45 O
          have hC := zAppend_at st rs la size _ _ _ (l2 ++ l3) A n c l stx erx lx mx w_6_4 (s0.below b) hSl (by omega) (by simpa using hstx.out) (by simpa using hlx.out) (by simpa using herx.out) hmx.out
          rw [hu45] at hC
          go_simp
          refine hC.mono ?_
          rintro e w_7_5 ⟨A6, c6, rfl, N, bC⟩
          go_wp2_with fail
          have hneA := nw_ne N V.lt
          replace V := V.under bC
          replace N := own_base N b.size
          replace b := b.trans (bC.mono b.size)
          clear hC
          refine hK.out _ _ b (fun hHeld => ?_)
          clear hK K
          try simp only [Act.put, List.setIfInBounds_toArray, List.set_cons_zero, List.set_cons_succ]
          refine wpAnyH_take (i := 8) (v := ?_) (by simp only [List.getElem?_toArray, List.getElem?_cons_succ, List.getElem?_cons_zero]; rfl) (by kernel_rfl) (by kernel_rfl) (by kernel_rfl) (by intro _ _ _ h; exact nomatch h.1) (Or.inl ⟨by rfl, ?_⟩) hHeld ?_
          rotate_left 1
          · intro wq hSw
            try dsimp only at hSw
            go_simp
            try (with_reducible rfl)
          try simp only [Act.put, List.setIfInBounds_toArray, List.set_cons_zero, List.set_cons_succ]
          refine wpAnyH_take (i := 9) (v := ?_) (by simp only [List.getElem?_toArray, List.getElem?_cons_succ, List.getElem?_cons_zero]; rfl) (by kernel_rfl) (by kernel_rfl) (by kernel_rfl) (by intro _ _ _ h; exact nomatch h.1) (Or.inl ⟨by rfl, ?_⟩) hHeld ?_
          rotate_left 1
          · intro wq hSw
            try dsimp only at hSw
            go_simp
            try (with_reducible rfl)
          try simp only [Act.put, List.setIfInBounds_toArray, List.set_cons_zero, List.set_cons_succ]
          refine wpAnyH_take (i := 10) (v := ?_) (by simp only [List.getElem?_toArray, List.getElem?_cons_succ, List.getElem?_cons_zero]; rfl) (by kernel_rfl) (by kernel_rfl) (by kernel_rfl) (by intro _ _ _ h; exact nomatch h.1) (Or.inl ⟨by rfl, ?_⟩) hHeld ?_
          rotate_left 1
          · intro wq hSw
            try dsimp only at hSw
            go_simp
            try (with_reducible rfl)
          try simp only [Act.put, List.setIfInBounds_toArray, List.set_cons_zero, List.set_cons_succ]
          refine wpAnyH_ready (rs := [12]) (by kernel_rfl) (by simp) ?_
          refine AllReadyH.cons (by simp only [List.getElem?_toArray, List.getElem?_cons_succ, List.getElem?_cons_zero]; rfl) (fun K hK => ?_) AllReadyH.nil
          obtain ⟨z0, z1, z2, z3, i0', i1', i2', i3'⟩ := V.four
          go_simp
          skip
          have V2 := ((((V.set 0 (.int .i64 stx)).set 1 (.int .i64 rs)).set 2 (.slice A6 mx c6)).set 3 (.int .i64 la))
          simp only [List.setIfInBounds_toArray, List.set_cons_zero, List.set_cons_succ] at V2
          have N2 := (own_far (own_far (own_far (own_far N (a := ⟨kv, 0, none⟩) hneA (.int .i64 stx)) (a := ⟨kv, 1, none⟩) hneA (.int .i64 rs)) (a := ⟨kv, 2, none⟩) hneA (.slice A6 mx c6)) (a := ⟨kv, 3, none⟩) hneA (.int .i64 la))
          have b2 := ((((b.setCell (p := ⟨kv, 0, none⟩) hcv (.int .i64 stx)).setCell (p := ⟨kv, 1, none⟩) hcv (.int .i64 rs)).setCell (p := ⟨kv, 2, none⟩) hcv (.slice A6 mx c6)).setCell (p := ⟨kv, 3, none⟩) hcv (.int .i64 la))
          clear z0 z1 z2 z3 i0' i1' i2' i3'
          clear V N b
          generalize ((((w_7_5.setCell ⟨kv, 0, none⟩ (.int .i64 stx)).setCell ⟨kv, 1, none⟩ (.int .i64 rs)).setCell ⟨kv, 2, none⟩ (.slice A6 mx c6)).setCell ⟨kv, 3, none⟩ (.int .i64 la)) = w_12_6 at *
          have V := V2
          have N := N2
          have b := b2
          clear V2 N2 b2
          refine hK.out _ _ b (fun hHeld => ?_)
          clear hK K
          try simp only [Act.put, List.setIfInBounds_toArray, List.set_cons_zero, List.set_cons_succ]
          refine wpAnyH_take (i := 13) (v := ?_) (by simp only [List.getElem?_toArray, List.getElem?_cons_succ, List.getElem?_cons_zero]; rfl) (by kernel_rfl) (by kernel_rfl) (by kernel_rfl) (by intro _ _ _ h; exact nomatch h.1) (Or.inl ⟨by rfl, ?_⟩) hHeld ?_
          rotate_left 1
          · intro wq hSw
            try dsimp only at hSw
            go_simp
            try (with_reducible rfl)
          try simp only [Act.put, List.setIfInBounds_toArray, List.set_cons_zero, List.set_cons_succ]
          refine wpAnyH_done (by kernel_rfl) ?_ _
          refine ⟨rfl, kv, A6, c6, u41, u43, u45, ?_, V, Sl.of_own N, b⟩
          with_reducible rfl
      · skip
        obtain ⟨kv, hkv⟩ : ∃ k, w_2_1.heap.size = k := ⟨_, rfl⟩
        go_simp
        try simp only [hkv]
        have V := Blk.new w_2_1 #[.int .i64 0, .int .i64 0, .slice none 0 0, .int .i64 0] 25
        rw [hkv] at V
        have hcv : w1.heap.size ≤ kv := by rw [← hkv]; exact b.size
        have hneU := own_ne O (Nat.le_of_eq hkv)
        replace O := World.ownsRow.alloc O (.cells #[.int .i64 0, .int .i64 0, .slice none 0 0, .int .i64 0] 25)
        skip
        replace b := b.alloc b.size (.cells #[.int .i64 0, .int .i64 0, .slice none 0 0, .int .i64 0] 25)
        generalize w_2_1.alloc (.cells #[.int .i64 0, .int .i64 0, .slice none 0 0, .int .i64 0] 25) = w_11_2 at *
        refine hK.out _ _ b (fun hHeld => ?_)
        clear hK K
        try simp only [Act.put, List.setIfInBounds_toArray, List.set_cons_zero, List.set_cons_succ]
        refine wpAnyH_ready (rs := [4]) (by kernel_rfl) (by simp) ?_
        refine AllReadyH.cons (by simp only [List.getElem?_toArray, List.getElem?_cons_succ, List.getElem?_cons_zero]; rfl) (fun K hK => ?_) AllReadyH.nil
        obtain ⟨Ar, cr, w_4_3, hr, hO⟩ := run_app (P := Try.prog) (Own.start O b.size) 23 23 i0 (.int .u8 0) 1 Try.underlying23 hi hz0 hz1 hz2 rfl _ _ _ _ (s2.below b) (oneCell8 _) (by omega) (by omega)
        refine (if_pos (by rfl)).mpr (wp_app (Operand.tmp 41) (Operand.tmp 42) 23 rfl rfl rfl hr ?_)
        try simp only [Act.put, List.setIfInBounds_toArray, List.set_cons_zero, List.set_cons_succ]
        have hneU2 := own_ne_step hO hneU V.lt
        replace V := V.own hO hneU
        replace hneU := hneU2
        clear hneU2
        replace b := own_below O hO b
        replace O := hO.own
        generalize hu43 : Value.slice Ar (0 + n2) cr = u43 at *
        clear hr hO
        refine hK.out _ _ b (fun hHeld => ?_)
        clear hK K
        try simp only [Act.put, List.setIfInBounds_toArray, List.set_cons_zero, List.set_cons_succ]
        refine wpAnyH_ready (rs := [6]) (by kernel_rfl) (by simp) ?_
        refine AllReadyH.cons (by simp only [List.getElem?_toArray, List.getElem?_cons_succ, List.getElem?_cons_zero]; rfl) (fun K hK => ?_) AllReadyH.nil
        obtain ⟨Ar, cr, w_6_4, hr, hO⟩ := run_app (P := Try.prog) (Own.start O b.size) 23 23 i0 (.int .u8 0) 1 Try.underlying23 hi hz0 hz1 hz2 rfl _ _ _ _ (s3.below b) (oneCell8 _) (by omega) (by omega)
        refine (if_pos (by rfl)).mpr (wp_app (Operand.tmp 43) (Operand.tmp 44) 23 rfl rfl rfl hr ?_)
        try simp only [Act.put, List.setIfInBounds_toArray, List.set_cons_zero, List.set_cons_succ]
        have hneU2 := own_ne_step hO hneU V.lt
        replace V := V.own hO hneU
        replace hneU := hneU2
        clear hneU2
        replace b := own_below O hO b
        replace O := hO.own
        rw [List.nil_append, ← List.map_append] at O
        generalize hu45 : Value.slice Ar (0 + n2 + n3) cr = u45 at *
        clear hr hO
        refine hK.out _ _ b (fun hHeld => ?_)
        clear hK K
        try simp only [Act.put, List.setIfInBounds_toArray, List.set_cons_zero, List.set_cons_succ]
        refine wpAnyH_ready (rs := [7]) (by kernel_rfl) (by simp) ?_
        refine AllReadyH.cons (by simp only [List.getElem?_toArray, List.getElem?_cons_succ, List.getElem?_cons_zero]; rfl) (fun K hK => ?_) AllReadyH.nil
        have hSl := sl_of_eq hu45 O
        have hC := zAppend_at st rs la size _ _ _ (l2 ++ l3) A n c l stx erx lx mx w_6_4 (s0.below b) hSl (by omega) (by simpa using hstx.out) (by simpa using hlx.out) (by simpa using herx.out) hmx.out
        rw [hu45] at hC
        go_simp
        refine hC.mono ?_
        rintro e w_7_5 ⟨A6, c6, rfl, N, bC⟩
        go_wp2_with fail
        have hneA := nw_ne N V.lt
        replace V := V.under bC
        replace N := own_base N b.size
        replace b := b.trans (bC.mono b.size)
        clear hC
        refine hK.out _ _ b (fun hHeld => ?_)
        clear hK K
        try simp only [Act.put, List.setIfInBounds_toArray, List.set_cons_zero, List.set_cons_succ]
        refine wpAnyH_take (i := 8) (v := ?_) (by simp only [List.getElem?_toArray, List.getElem?_cons_succ, List.getElem?_cons_zero]; rfl) (by kernel_rfl) (by kernel_rfl) (by kernel_rfl) (by intro _ _ _ h; exact nomatch h.1) (Or.inl ⟨by rfl, ?_⟩) hHeld ?_
        rotate_left 1
        · intro wq hSw
          try dsimp only at hSw
          go_simp
          try (with_reducible rfl)
        try simp only [Act.put, List.setIfInBounds_toArray, List.set_cons_zero, List.set_cons_succ]
        refine wpAnyH_take (i := 9) (v := ?_) (by simp only [List.getElem?_toArray, List.getElem?_cons_succ, List.getElem?_cons_zero]; rfl) (by kernel_rfl) (by kernel_rfl) (by kernel_rfl) (by intro _ _ _ h; exact nomatch h.1) (Or.inl ⟨by rfl, ?_⟩) hHeld ?_
        rotate_left 1
        · intro wq hSw
          try dsimp only at hSw
          go_simp
          try (with_reducible rfl)
        try simp only [Act.put, List.setIfInBounds_toArray, List.set_cons_zero, List.set_cons_succ]
        refine wpAnyH_take (i := 10) (v := ?_) (by simp only [List.getElem?_toArray, List.getElem?_cons_succ, List.getElem?_cons_zero]; rfl) (by kernel_rfl) (by kernel_rfl) (by kernel_rfl) (by intro _ _ _ h; exact nomatch h.1) (Or.inl ⟨by rfl, ?_⟩) hHeld ?_
        rotate_left 1
        · intro wq hSw
          try dsimp only at hSw
          go_simp
          try (with_reducible rfl)
        try simp only [Act.put, List.setIfInBounds_toArray, List.set_cons_zero, List.set_cons_succ]
        refine wpAnyH_ready (rs := [12]) (by kernel_rfl) (by simp) ?_
        refine AllReadyH.cons (by simp only [List.getElem?_toArray, List.getElem?_cons_succ, List.getElem?_cons_zero]; rfl) (fun K hK => ?_) AllReadyH.nil
        obtain ⟨z0, z1, z2, z3, i0', i1', i2', i3'⟩ := V.four
        go_simp
        skip
        have V2 := ((((V.set 0 (.int .i64 stx)).set 1 (.int .i64 rs)).set 2 (.slice A6 mx c6)).set 3 (.int .i64 la))
        simp only [List.setIfInBounds_toArray, List.set_cons_zero, List.set_cons_succ] at V2
        have N2 := (own_far (own_far (own_far (own_far N (a := ⟨kv, 0, none⟩) hneA (.int .i64 stx)) (a := ⟨kv, 1, none⟩) hneA (.int .i64 rs)) (a := ⟨kv, 2, none⟩) hneA (.slice A6 mx c6)) (a := ⟨kv, 3, none⟩) hneA (.int .i64 la))
        have b2 := ((((b.setCell (p := ⟨kv, 0, none⟩) hcv (.int .i64 stx)).setCell (p := ⟨kv, 1, none⟩) hcv (.int .i64 rs)).setCell (p := ⟨kv, 2, none⟩) hcv (.slice A6 mx c6)).setCell (p := ⟨kv, 3, none⟩) hcv (.int .i64 la))
        clear z0 z1 z2 z3 i0' i1' i2' i3'
        clear V N b
        generalize ((((w_7_5.setCell ⟨kv, 0, none⟩ (.int .i64 stx)).setCell ⟨kv, 1, none⟩ (.int .i64 rs)).setCell ⟨kv, 2, none⟩ (.slice A6 mx c6)).setCell ⟨kv, 3, none⟩ (.int .i64 la)) = w_12_6 at *
        have V := V2
        have N := N2
        have b := b2
        clear V2 N2 b2
        refine hK.out _ _ b (fun hHeld => ?_)
        clear hK K
        try simp only [Act.put, List.setIfInBounds_toArray, List.set_cons_zero, List.set_cons_succ]
        refine wpAnyH_take (i := 13) (v := ?_) (by simp only [List.getElem?_toArray, List.getElem?_cons_succ, List.getElem?_cons_zero]; rfl) (by kernel_rfl) (by kernel_rfl) (by kernel_rfl) (by intro _ _ _ h; exact nomatch h.1) (Or.inl ⟨by rfl, ?_⟩) hHeld ?_
        rotate_left 1
        · intro wq hSw
          try dsimp only at hSw
          go_simp
          try (with_reducible rfl)
        try simp only [Act.put, List.setIfInBounds_toArray, List.set_cons_zero, List.set_cons_succ]
        refine wpAnyH_done (by kernel_rfl) ?_ _
        refine ⟨rfl, kv, A6, c6, u41, u43, u45, ?_, V, Sl.of_own N, b⟩
        with_reducible rfl
    · skip
      obtain ⟨kv, hkv⟩ : ∃ k, wd.heap.size = k := ⟨_, rfl⟩
      go_simp
      try simp only [hkv]
      have V := Blk.new wd #[.int .i64 0, .int .i64 0, .slice none 0 0, .int .i64 0] 25
      rw [hkv] at V
      have hcv : w1.heap.size ≤ kv := by rw [← hkv]; exact b.size
      skip
      replace b := b.alloc b.size (.cells #[.int .i64 0, .int .i64 0, .slice none 0 0, .int .i64 0] 25)
      generalize wd.alloc (.cells #[.int .i64 0, .int .i64 0, .slice none 0 0, .int .i64 0] 25) = w_11_1 at *
      refine hK.out _ _ b (fun hHeld => ?_)
      clear hK K
      try simp only [Act.put, List.setIfInBounds_toArray, List.set_cons_zero, List.set_cons_succ]
      refine wpAnyH_ready (rs := [2]) (by kernel_rfl) (by simp) ?_
      refine AllReadyH.cons (by simp only [List.getElem?_toArray, List.getElem?_cons_succ, List.getElem?_cons_zero]; rfl) (fun K hK => ?_) AllReadyH.nil
      go_simp
      have O := built_own w_11_1 #[] 5 [] 0 rfl rfl (by decide) b.size
      have hneU := slice_ne 0 V.lt
      replace V := V.alloc (.cells #[] 5)
      replace b := b.alloc b.size (.cells #[] 5)
      generalize hu41 : Value.slice (some ⟨w_11_1.heap.size, 0, none⟩) 0 0 = u41 at *
      generalize w_11_1.alloc (.cells #[] 5) = w_2_2 at *
      refine hK.out _ _ b (fun hHeld => ?_)
      clear hK K
      try simp only [Act.put, List.setIfInBounds_toArray, List.set_cons_zero, List.set_cons_succ]
      refine wpAnyH_ready (rs := [4]) (by kernel_rfl) (by simp) ?_
      refine AllReadyH.cons (by simp only [List.getElem?_toArray, List.getElem?_cons_succ, List.getElem?_cons_zero]; rfl) (fun K hK => ?_) AllReadyH.nil
      obtain ⟨Ar, cr, w_4_3, hr, hO⟩ := run_app (P := Try.prog) (Own.start O b.size) 23 23 i0 (.int .u8 0) 1 Try.underlying23 hi hz0 hz1 hz2 rfl _ _ _ _ (s2.below b) (oneCell8 _) (by omega) (by omega)
      refine (if_pos (by rfl)).mpr (wp_app (Operand.tmp 41) (Operand.tmp 42) 23 rfl rfl rfl hr ?_)
      try simp only [Act.put, List.setIfInBounds_toArray, List.set_cons_zero, List.set_cons_succ]
      have hneU2 := own_ne_step hO hneU V.lt
      replace V := V.own hO hneU
      replace hneU := hneU2
      clear hneU2
      replace b := own_below O hO b
      replace O := hO.own
      generalize hu43 : Value.slice Ar (0 + n2) cr = u43 at *
      clear hr hO
      refine hK.out _ _ b (fun hHeld => ?_)
      clear hK K
      try simp only [Act.put, List.setIfInBounds_toArray, List.set_cons_zero, List.set_cons_succ]
      refine wpAnyH_ready (rs := [6]) (by kernel_rfl) (by simp) ?_
      refine AllReadyH.cons (by simp only [List.getElem?_toArray, List.getElem?_cons_succ, List.getElem?_cons_zero]; rfl) (fun K hK => ?_) AllReadyH.nil
      obtain ⟨Ar, cr, w_6_4, hr, hO⟩ := run_app (P := Try.prog) (Own.start O b.size) 23 23 i0 (.int .u8 0) 1 Try.underlying23 hi hz0 hz1 hz2 rfl _ _ _ _ (s3.below b) (oneCell8 _) (by omega) (by omega)
      refine (if_pos (by rfl)).mpr (wp_app (Operand.tmp 43) (Operand.tmp 44) 23 rfl rfl rfl hr ?_)
      try simp only [Act.put, List.setIfInBounds_toArray, List.set_cons_zero, List.set_cons_succ]
      have hneU2 := own_ne_step hO hneU V.lt
      replace V := V.own hO hneU
      replace hneU := hneU2
      clear hneU2
      replace b := own_below O hO b
      replace O := hO.own
      rw [List.nil_append, ← List.map_append] at O
      generalize hu45 : Value.slice Ar (0 + n2 + n3) cr = u45 at *
      clear hr hO
      refine hK.out _ _ b (fun hHeld => ?_)
      clear hK K
      try simp only [Act.put, List.setIfInBounds_toArray, List.set_cons_zero, List.set_cons_succ]
      refine wpAnyH_ready (rs := [7]) (by kernel_rfl) (by simp) ?_
      refine AllReadyH.cons (by simp only [List.getElem?_toArray, List.getElem?_cons_succ, List.getElem?_cons_zero]; rfl) (fun K hK => ?_) AllReadyH.nil
      have hSl := sl_of_eq hu45 O
      have hC := zAppend_at st rs la size _ _ _ (l2 ++ l3) A n c l stx erx lx mx w_6_4 (s0.below b) hSl (by omega) (by simpa using hstx.out) (by simpa using hlx.out) (by simpa using herx.out) hmx.out
      rw [hu45] at hC
      go_simp
      refine hC.mono ?_
      rintro e w_7_5 ⟨A6, c6, rfl, N, bC⟩
      go_wp2_with fail
      have hneA := nw_ne N V.lt
      replace V := V.under bC
      replace N := own_base N b.size
      replace b := b.trans (bC.mono b.size)
      clear hC
      refine hK.out _ _ b (fun hHeld => ?_)
      clear hK K
      try simp only [Act.put, List.setIfInBounds_toArray, List.set_cons_zero, List.set_cons_succ]
      refine wpAnyH_take (i := 8) (v := ?_) (by simp only [List.getElem?_toArray, List.getElem?_cons_succ, List.getElem?_cons_zero]; rfl) (by kernel_rfl) (by kernel_rfl) (by kernel_rfl) (by intro _ _ _ h; exact nomatch h.1) (Or.inl ⟨by rfl, ?_⟩) hHeld ?_
      rotate_left 1
      · intro wq hSw
        try dsimp only at hSw
        go_simp
        try (with_reducible rfl)
      try simp only [Act.put, List.setIfInBounds_toArray, List.set_cons_zero, List.set_cons_succ]
      refine wpAnyH_take (i := 9) (v := ?_) (by simp only [List.getElem?_toArray, List.getElem?_cons_succ, List.getElem?_cons_zero]; rfl) (by kernel_rfl) (by kernel_rfl) (by kernel_rfl) (by intro _ _ _ h; exact nomatch h.1) (Or.inl ⟨by rfl, ?_⟩) hHeld ?_
      rotate_left 1
      · intro wq hSw
        try dsimp only at hSw
        go_simp
        try (with_reducible rfl)
      try simp only [Act.put, List.setIfInBounds_toArray, List.set_cons_zero, List.set_cons_succ]
      refine wpAnyH_take (i := 10) (v := ?_) (by simp only [List.getElem?_toArray, List.getElem?_cons_succ, List.getElem?_cons_zero]; rfl) (by kernel_rfl) (by kernel_rfl) (by kernel_rfl) (by intro _ _ _ h; exact nomatch h.1) (Or.inl ⟨by rfl, ?_⟩) hHeld ?_
      rotate_left 1
      · intro wq hSw
        try dsimp only at hSw
        go_simp
        try (with_reducible rfl)
      try simp only [Act.put, List.setIfInBounds_toArray, List.set_cons_zero, List.set_cons_succ]
      refine wpAnyH_ready (rs := [12]) (by kernel_rfl) (by simp) ?_
      refine AllReadyH.cons (by simp only [List.getElem?_toArray, List.getElem?_cons_succ, List.getElem?_cons_zero]; rfl) (fun K hK => ?_) AllReadyH.nil
      obtain ⟨z0, z1, z2, z3, i0', i1', i2', i3'⟩ := V.four
      go_simp
      skip
      have V2 := ((((V.set 0 (.int .i64 stx)).set 1 (.int .i64 rs)).set 2 (.slice A6 mx c6)).set 3 (.int .i64 la))
      simp only [List.setIfInBounds_toArray, List.set_cons_zero, List.set_cons_succ] at V2
      have N2 := (own_far (own_far (own_far (own_far N (a := ⟨kv, 0, none⟩) hneA (.int .i64 stx)) (a := ⟨kv, 1, none⟩) hneA (.int .i64 rs)) (a := ⟨kv, 2, none⟩) hneA (.slice A6 mx c6)) (a := ⟨kv, 3, none⟩) hneA (.int .i64 la))
      have b2 := ((((b.setCell (p := ⟨kv, 0, none⟩) hcv (.int .i64 stx)).setCell (p := ⟨kv, 1, none⟩) hcv (.int .i64 rs)).setCell (p := ⟨kv, 2, none⟩) hcv (.slice A6 mx c6)).setCell (p := ⟨kv, 3, none⟩) hcv (.int .i64 la))
      clear z0 z1 z2 z3 i0' i1' i2' i3'
      clear V N b
      generalize ((((w_7_5.setCell ⟨kv, 0, none⟩ (.int .i64 stx)).setCell ⟨kv, 1, none⟩ (.int .i64 rs)).setCell ⟨kv, 2, none⟩ (.slice A6 mx c6)).setCell ⟨kv, 3, none⟩ (.int .i64 la)) = w_12_6 at *
      have V := V2
      have N := N2
      have b := b2
      clear V2 N2 b2
      refine hK.out _ _ b (fun hHeld => ?_)
      clear hK K
      try simp only [Act.put, List.setIfInBounds_toArray, List.set_cons_zero, List.set_cons_succ]
      refine wpAnyH_take (i := 13) (v := ?_) (by simp only [List.getElem?_toArray, List.getElem?_cons_succ, List.getElem?_cons_zero]; rfl) (by kernel_rfl) (by kernel_rfl) (by kernel_rfl) (by intro _ _ _ h; exact nomatch h.1) (Or.inl ⟨by rfl, ?_⟩) hHeld ?_
      rotate_left 1
      · intro wq hSw
        try dsimp only at hSw
        go_simp
        try (with_reducible rfl)
      try simp only [Act.put, List.setIfInBounds_toArray, List.set_cons_zero, List.set_cons_succ]
      refine wpAnyH_done (by kernel_rfl) ?_ _
      refine ⟨rfl, kv, A6, c6, u41, u43, u45, ?_, V, Sl.of_own N, b⟩
      with_reducible rfl
  rintro a w4 ⟨kv, A6, c6, u41, u43, u45, rfl, Bx, sx, b6⟩
  replace s0 := s0.below b6
  replace s2 := s2.below b6
  replace s3 := s3.below b6
  replace Bz := Bz.under b6
  replace bb := bb.trans (b6.mono bb.size)
  try dsimp only
  obtain ⟨ery, hery⟩ : ∃ x, Hid (appErrF st rs n la size n2 = x) := ⟨_, rfl⟩
  obtain ⟨sty, hsty⟩ : ∃ x, Hid (appSt st rs n la size n2 = x) := ⟨_, rfl⟩
  obtain ⟨ly, hly⟩ : ∃ x, Hid (appDa st rs n la size n2 l l2 = x) := ⟨_, rfl⟩
  obtain ⟨my, hmy⟩ : ∃ x, Hid (ly.length = x) := ⟨_, rfl⟩
  have hmyb : my ≤ 600 := by
    have hx := hl0.out
    have hy := hl2.out
    rw [← hmy.out, ← hly.out, appDa]
    split
    · rw [List.length_append]; omega
    · omega
  obtain ⟨Bzq0, Bzq1, Bzq2, Bzq3, Bzr0, Bzr1, Bzr2, Bzr3⟩ := Bz.four
  have Bzl := Bz.lt
  go_wp2_with fail
  clear Bzq0 Bzq1 Bzq2 Bzq3 Bzr0 Bzr1 Bzr2 Bzr3
  have bw4 := Below.refl w4.heap.size w4
  have Bz4 := Bz
  have s04 := s0
  have Bx4 := Bx
  have sx4 := sx
  have hC := zAppend_at st rs la size A2 n2 c2 l2 A n c l sty ery ly my w4 s0 s2 (by omega) hsty.out hly.out hery.out hmy.out
  refine hC.mono ?_
  clear hC
  rintro e w5 ⟨A5, c5, rfl, N5, b5⟩
  replace s0 := s0.below b5
  replace s2 := s2.below b5
  replace s3 := s3.below b5
  replace Bz := Bz.under b5
  replace Bx := Bx.under b5
  replace sx := sx.below b5
  replace bw4 := bw4.trans (b5.mono bw4.size)
  replace bb := bb.trans (b5.mono bb.size)
  have s5 := N5.sl
  have hlt5 : Hid (∀ b, (Value.slice A5 my c5).ownBlock = some b → w4.heap.size ≤ b ∧ b < w5.heap.size) := World.ownsRow.lt N5
  obtain ⟨erw, herw⟩ : ∃ x, Hid (appErrF sty rs my la size n3 = x) := ⟨_, rfl⟩
  obtain ⟨stw, hstw⟩ : ∃ x, Hid (appSt sty rs my la size n3 = x) := ⟨_, rfl⟩
  obtain ⟨lw, hlw⟩ : ∃ x, Hid (appDa sty rs my la size n3 ly l3 = x) := ⟨_, rfl⟩
  obtain ⟨mw, hmw⟩ : ∃ x, Hid (lw.length = x) := ⟨_, rfl⟩
  replace s0 := s0.alloc (.cells #[.int .i64 sty, .int .i64 rs, .slice A5 my c5, .int .i64 la] 25)
  replace s2 := s2.alloc (.cells #[.int .i64 sty, .int .i64 rs, .slice A5 my c5, .int .i64 la] 25)
  replace s3 := s3.alloc (.cells #[.int .i64 sty, .int .i64 rs, .slice A5 my c5, .int .i64 la] 25)
  replace Bz := Bz.alloc (.cells #[.int .i64 sty, .int .i64 rs, .slice A5 my c5, .int .i64 la] 25)
  replace Bx := Bx.alloc (.cells #[.int .i64 sty, .int .i64 rs, .slice A5 my c5, .int .i64 la] 25)
  replace sx := sx.alloc (.cells #[.int .i64 sty, .int .i64 rs, .slice A5 my c5, .int .i64 la] 25)
  replace bw4 := bw4.alloc bw4.size (.cells #[.int .i64 sty, .int .i64 rs, .slice A5 my c5, .int .i64 la] 25)
  replace s5 := s5.alloc (.cells #[.int .i64 sty, .int .i64 rs, .slice A5 my c5, .int .i64 la] 25)
  replace N5 := N5.alloc (.cells #[.int .i64 sty, .int .i64 rs, .slice A5 my c5, .int .i64 la] 25)
  replace bb := bb.alloc bb.size (.cells #[.int .i64 sty, .int .i64 rs, .slice A5 my c5, .int .i64 la] 25)
  have By := Blk.new w5 #[.int .i64 sty, .int .i64 rs, .slice A5 my c5, .int .i64 la] 25
  go_wp2_with fail
  generalize (w5.alloc (.cells #[.int .i64 sty, .int .i64 rs, .slice A5 my c5, .int .i64 la] 25)) = W2 at *
  have hy2 := By.lt
  have hC := zAppend_at sty rs la size A3 n3 c3 l3 A5 my c5 ly stw erw lw mw W2 s5 s3 (by omega) hstw.out hlw.out herw.out hmw.out
  refine hC.mono ?_
  clear hC
  rintro e w7 ⟨A7, c7, rfl, N7, b7⟩
  replace s0 := s0.below b7
  replace s2 := s2.below b7
  replace s3 := s3.below b7
  replace Bz := Bz.under b7
  replace Bx := Bx.under b7
  replace sx := sx.below b7
  replace bw4 := bw4.trans (b7.mono bw4.size)
  replace s5 := s5.below b7
  replace N5 := N5.below b7
  replace By := By.under b7
  replace bb := bb.trans (b7.mono bb.size)
  have sw := N7.sl
  have hy7 := By.lt
  have hA7 : ∀ ad, A7 = some ad → W2.heap.size ≤ ad.block := N7.fr
  replace s0 := s0.alloc (.cells #[.int .i64 stw, .int .i64 rs, .slice A7 mw c7, .int .i64 la] 25)
  replace s2 := s2.alloc (.cells #[.int .i64 stw, .int .i64 rs, .slice A7 mw c7, .int .i64 la] 25)
  replace s3 := s3.alloc (.cells #[.int .i64 stw, .int .i64 rs, .slice A7 mw c7, .int .i64 la] 25)
  replace Bz := Bz.alloc (.cells #[.int .i64 stw, .int .i64 rs, .slice A7 mw c7, .int .i64 la] 25)
  replace Bx := Bx.alloc (.cells #[.int .i64 stw, .int .i64 rs, .slice A7 mw c7, .int .i64 la] 25)
  replace sx := sx.alloc (.cells #[.int .i64 stw, .int .i64 rs, .slice A7 mw c7, .int .i64 la] 25)
  replace bw4 := bw4.alloc bw4.size (.cells #[.int .i64 stw, .int .i64 rs, .slice A7 mw c7, .int .i64 la] 25)
  replace s5 := s5.alloc (.cells #[.int .i64 stw, .int .i64 rs, .slice A7 mw c7, .int .i64 la] 25)
  replace N5 := N5.alloc (.cells #[.int .i64 stw, .int .i64 rs, .slice A7 mw c7, .int .i64 la] 25)
  replace By := By.alloc (.cells #[.int .i64 stw, .int .i64 rs, .slice A7 mw c7, .int .i64 la] 25)
  replace sw := sw.alloc (.cells #[.int .i64 stw, .int .i64 rs, .slice A7 mw c7, .int .i64 la] 25)
  replace bb := bb.alloc bb.size (.cells #[.int .i64 stw, .int .i64 rs, .slice A7 mw c7, .int .i64 la] 25)
  have Bw := Blk.new w7 #[.int .i64 stw, .int .i64 rs, .slice A7 mw c7, .int .i64 la] 25
  go_wp2_with fail
  generalize (w7.alloc (.cells #[.int .i64 stw, .int .i64 rs, .slice A7 mw c7, .int .i64 la] 25)) = W7 at *
  have HO := Own.start N5 (Nat.le_trans bw4.size (Nat.le_refl _))
  clear s5 s2 s3 s0 Bz Bx sx
  go_loopg [17] my (fun g i wr => ∃ k : Nat, k + g = my ∧ i = .int .i64 (k : Int) ∧ ∃ l' : List UInt8, Own w4.heap.size 5 W7 wr (.slice A5 my c5) (.slice A5 my c5) my (l'.map v8))
  case atStart => exact ⟨0, by omega, rfl, ly, HO⟩
  case round =>
    clear HO
    obtain ⟨k, hk, rfl, l', hw⟩ := hrel
    have Byr := By.own hw (fun b hb e => by have := (hlt5.out b hb).2; omega)
    obtain ⟨y0, y1, y2, y3, _⟩ := Byr.four
    by_cases hlt : (k : Int) < (my : Int)
    · obtain ⟨g, rfl⟩ : ∃ g, gk = g + 1 := ⟨gk - 1, by omega⟩
      obtain ⟨gb, u, rfl, hu, hcell, hfz, hst⟩ := hw.store (show k < my by omega)
      have hlen' : l'.length = my := by have := hw.own.1; simpa using this
      obtain ⟨x, hx⟩ : ∃ x : UInt8, Hid (x = l'[k]'(by omega)) := ⟨l'[k]'(by omega), rfl⟩
      obtain rfl : u = .int .u8 (x.toNat : Int) := by
        rw [List.getElem?_map, List.getElem?_eq_getElem (show k < l'.length by omega), ← hx.out] at hu
        simpa [v8] using hu.symm
      have ht := xor255 x
      have hw5 := hst (.int .u8 ((x ^^^ 255).toNat : Int))
      rw [show Value.int .u8 ((x ^^^ 255).toNat : Int) = v8 (x ^^^ 255) from rfl, ← List.map_set] at hw5
      clear hst
      go_wp2_with fail
      go_region
      all_goals (try go_wp2)
      all_goals go_roundg g
      case measure => omega
      case rel => exact ⟨k + 1, by omega, rfl, l'.set k (x ^^^ 255), hw5.drew⟩
    · obtain rfl : k = my := by omega
      have br := hw.below bw4 bw4.size (fun b hb => (hlt5.out b hb).1)
      have Bz := Bz4.under br
      have s0 := s04.below br
      have Bx := Bx4.under br
      have sx := sx4.below br
      have hB7 : Below w.heap.size w wr := hw.below bb bb.size (fun b hb => by have := (hlt5.out b hb).1; have := Bz4.lt; omega)
      have Bw' := Bw.own hw (fun b hb e => by have := (hlt5.out b hb).2; omega)
      have sw' := sw.grown hw.grown (fun ad hA e => by have h1 := hA7 ad hA; have h2 := (hlt5.out ad.block e.symm).2; omega)
      have q0 := str_of s0
      obtain ⟨z0, z1, z2, z3, _⟩ := Bz.four
      obtain ⟨x0, x1, x2, x3, _⟩ := Bx.four
      obtain ⟨v0, v1, v2, v3, _⟩ := Bw'.four
      have hfirst : Hid (erx = 0 → 0 < (n2 : Int) → ery = 0) := fun e1 e2 => by
        rw [← hery.out]
        have hx := herx.out
        rw [e1] at hx
        exact app_first (k := (n3 : Int)) e2 (by omega) (by simpa using hx)
      clear By
      by_cases hy : ery = 0
      · by_cases hv : erw = 0
        · have f1 := hery.out
          rw [hy] at f1
          obtain ⟨hc, hn2⟩ := app_zero f1
          obtain ⟨g1, g2, g3⟩ := chk_app hc (by omega) f1
          have k1 : sty = fullF ((n : Int) + n2) size := by rw [← hsty.out, appSt, if_pos f1]
          have k2 : ly = l ++ l2 := by rw [← hly.out, appDa, if_pos f1]
          have k3 : k = n + n2 := by rw [← hmy.out, k2, List.length_append, hl0.out, hl2.out]
          have f2 := herw.out
          rw [hv, k1, k3] at f2
          have f2' : appErrF (fullF ((n : Int) + n2) size) rs ((n : Int) + n2) la size n3 = 0 := by simpa using f2
          have hn3 := (app_zero f2').2
          have f3 := app_two hc (by omega) (by omega) f1 f2'
          have k4 : erx = 0 := by rw [← herx.out]; simpa using f3
          have k5 : lw = l ++ l2 ++ l3 := by rw [← hlw.out, appDa, k1, k3, if_pos f2, k2]
          have k6 : lx = lw := by rw [k5, ← hlx.out, appDa, if_pos (by simpa using f3), List.append_assoc]
          have k7 : stw = fullF ((n : Int) + n2 + n3) size := by rw [← hstw.out, appSt, k1, k3, if_pos f2]; simp
          have k8 : stx = stw := by rw [k7, ← hstx.out, appSt, if_pos (by simpa using f3)]; simp [Int.add_assoc]
          have k9 : Hid (sameF stx rs la lx stw rs la lw = true) := by show sameF _ _ _ _ _ _ _ _ = _; simp [sameF, k6, k8]
          clear f1 f2 f2' f3 g1 g2 g3 k1 k2 k3 k5 k6 k7 k8
          subst hy hv k4
          go_wp2_with fail
          refine (zSame_at stx rs la A6 mx c6 lx stw rs la A7 mw c7 lw true wr sx sw' k9.out).mono ?_
          rintro e w9 ⟨rfl, b9⟩
          have q9 := str_of (s0.below b9)
          obtain ⟨z0', z1', z2', z3', _⟩ := (Bz.under b9).four
          go_wp2
          go_ret
          exact ⟨rfl, hB7.trans (b9.mono hB7.size)⟩
        · have hv' : (erw == 0) = false := by simpa using hv
          subst hy
          by_cases he : erx = 0
          · subst he
            by_cases hn0 : (n2 : Int) = 0
            all_goals (go_wp2; go_ret; exact ⟨rfl, hB7⟩)
          · have he' : (erx == 0) = false := by simpa using he
            go_wp2
            go_ret
            exact ⟨rfl, hB7⟩
      · have hy' : (ery == 0) = false := by simpa using hy
        by_cases he : erx = 0
        · obtain hn0 : (n2 : Int) = 0 := by have := hfirst.out he; by_cases hx : 0 < (n2 : Int); exact absurd (this hx) hy; omega
          subst he
          go_wp2
          go_ret
          exact ⟨rfl, hB7⟩
        · have he' : (erx == 0) = false := by simpa using he
          go_wp2
          go_ret
          exact ⟨rfl, hB7⟩

theorem ZoneOwn_walk (a0_0 : Int) (a0_1 : Int) (a0_2 : Option Addr) (len0_2 cap0_2 : Nat) (z0_2 : List Int) (a0_3 : Int) (a1 : Int) (a2 : Option Addr) (len2 cap2 : Nat) (z2 : List Int) (a3 : Option Addr) (len3 cap3 : Nat) (z3 : List Int) (w : World) (w0_0 : (Lit.int .i64 a0_0).wf = true) (w0_1 : (Lit.int .i64 a0_1).wf = true) (w0_2 : IsRow .u8 w a0_2 len0_2 cap0_2 z0_2) (w0_3 : (Lit.int .i64 a0_3).wf = true) (w1 : (Lit.int .i64 a1).wf = true) (w2 : IsRow .u8 w a2 len2 cap2 z2) (w3 : IsRow .u8 w a3 len3 cap3 z3) :
    Calls Try.prog 6 #[.agg #[.int .i64 a0_0, .int .i64 a0_1, .slice a0_2 len0_2 cap0_2, .int .i64 a0_3], .int .i64 a1, .slice a2 len2 cap2, .slice a3 len3 cap3] w (AwakePost w) := by
  obtain ⟨l0_2, s0_2⟩ := w0_2.bytes
  obtain ⟨l2, s2⟩ := w2.bytes
  obtain ⟨l3, s3⟩ := w3.bytes
  exact ZoneOwn_core a0_0 a0_1 a0_3 a1 a0_2 len0_2 cap0_2 l0_2 a2 len2 cap2 l2 a3 len3 cap3 l3 w s0_2 s2 s3
end Go.Proofs.Ytepknniflkmjnaa
