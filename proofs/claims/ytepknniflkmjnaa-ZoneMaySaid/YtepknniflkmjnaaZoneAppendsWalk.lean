/-
  ZoneAppends: the walk (written by gen_zoneappends.py).
-/
import Derived.Test.YtepknniflkmjnaaZoneAwake
import Derived.Test.YtepknniflkmjnaaArgs
import Derived.Test.YtepknniflkmjnaaJoin
namespace Go.Proofs.Ytepknniflkmjnaa
open Go.RowKit Go.Wag
set_option linter.unusedVariables false

theorem appErr_cases {st rs n la size : Int} (m : Int) (hc : chkF st rs n la size = true) (hm : m ≠ 0) : appErrF st rs n la size m = if m ≤ roomF st rs n la size then 0 else 30 := by
  unfold appErrF
  rw [if_pos ⟨hc, hm⟩]
theorem room_val {st rs n la size : Int} (hc : chkF st rs n la size = true) : roomF st rs n la size = if st ≠ 3 then size - n else 0 := by
  unfold roomF
  by_cases h : st ≠ 3
  · rw [if_pos ⟨hc, h⟩, if_pos h]
  · rw [if_neg (fun hh => h hh.2), if_neg h]
theorem chk_app {st rs n la size m : Int} (hc : chkF st rs n la size = true) (hm : 0 < m) (he : appErrF st rs n la size m = 0) : st ≠ 3 ∧ n + m ≤ size ∧ chkF (fullF (n + m) size) rs (n + m) la size = true := by
  rw [appErr_cases m hc (by omega), room_val hc] at he
  have h := chk_all hc
  by_cases h3 : st = 3
  · have e3 : (if st ≠ 3 then size - n else 0) = 0 := by simp [h3]
    rw [e3, if_neg (by omega)] at he
    cases he
  · rw [if_pos (show st ≠ 3 from h3)] at he
    by_cases hf : m ≤ size - n
    · refine ⟨h3, by omega, ?_⟩
      unfold fullF
      simp only [chkF, decide_eq_true_eq]
      split <;> omega
    · rw [if_neg hf] at he
      cases he
/-- Two parts and both at once: they are taken, or both at once are not. -/
theorem app_two {st rs n la size m k : Int} (hc : chkF st rs n la size = true) (hm : 0 < m) (hk : 0 < k) (h1 : appErrF st rs n la size m = 0) (h2 : appErrF (fullF (n + m) size) rs (n + m) la size k = 0) :
    appErrF st rs n la size (m + k) = 0 := by
  obtain ⟨h3, h4, h5⟩ := chk_app hc hm h1
  obtain ⟨h6, h7, -⟩ := chk_app h5 hk h2
  rw [appErr_cases _ hc (by omega), room_val hc, if_pos h3, if_pos (by omega)]
theorem app_not {st rs n la size m k : Int} (hc : chkF st rs n la size = true) (hm : 0 < m) (hk : 0 < k) (h : ¬ (appErrF st rs n la size m = 0 ∧ appErrF (fullF (n + m) size) rs (n + m) la size k = 0)) :
    appErrF st rs n la size (m + k) = 30 := by
  have hb := chk_all hc
  by_cases h1 : appErrF st rs n la size m = 0
  · obtain ⟨h3, h4, h5⟩ := chk_app hc hm h1
    have h2 : ¬ appErrF (fullF (n + m) size) rs (n + m) la size k = 0 := fun e => h ⟨h1, e⟩
    rw [appErr_cases k h5 (by omega), room_val h5] at h2
    rw [appErr_cases _ hc (by omega), room_val hc, if_pos h3, if_neg]
    intro hle
    apply h2
    have : fullF (n + m) size ≠ 3 := by
      unfold fullF
      split <;> omega
    rw [if_pos this, if_pos (by omega)]
  · rw [appErr_cases m hc (by omega), room_val hc] at h1
    rw [appErr_cases _ hc (by omega), room_val hc, if_neg]
    intro hle
    apply h1
    rw [if_pos]
    split at hle <;> split <;> omega

set_option maxRecDepth 100000 in
set_option maxHeartbeats 4000000 in
theorem ZoneAppends_core (st rs la size : Int) (A : Option Addr) (n c : Nat) (l : List UInt8) (A2 : Option Addr) (n2 c2 : Nat) (l2 : List UInt8) (A3 : Option Addr) (n3 c3 : Nat) (l3 : List UInt8) (w : World)
    (s0 : Sl w A n c (l.map v8)) (s2 : Sl w A2 n2 c2 (l2.map v8)) (s3 : Sl w A3 n3 c3 (l3.map v8)) :
    Calls Try.prog 9 #[.agg #[.int .i64 st, .int .i64 rs, .slice A n c, .int .i64 la], .int .i64 size, .slice A2 n2 c2, .slice A3 n3 c3] w (AwakePost w) := by
  obtain ⟨i0, hi, hz0, hz1, hz2⟩ := info_parts i5
  have hl0 : Hid (l.length = n) := s0.len8
  have hl2 : Hid (l2.length = n2) := s2.len8
  have hl3 : Hid (l3.length = n3) := s3.len8
  have bb := Below.refl w.heap.size w
  go_enter Try.func9, Try.ntmps9
  replace s0 := s0.alloc (.cells #[.int .i64 st, .int .i64 rs, .slice A n c, .int .i64 la] 25)
  replace s2 := s2.alloc (.cells #[.int .i64 st, .int .i64 rs, .slice A n c, .int .i64 la] 25)
  replace s3 := s3.alloc (.cells #[.int .i64 st, .int .i64 rs, .slice A n c, .int .i64 la] 25)
  replace bb := bb.alloc bb.size (.cells #[.int .i64 st, .int .i64 rs, .slice A n c, .int .i64 la] 25)
  have Bz := Blk.new w #[.int .i64 st, .int .i64 rs, .slice A n c, .int .i64 la] 25
  go_wp2_with fail
  generalize (w.alloc (.cells #[.int .i64 st, .int .i64 rs, .slice A n c, .int .i64 la] 25)) = W1 at *
  have hC := awake3_any W1
  refine hC.mono ?_
  clear hC
  rintro e w1 ⟨rfl, ba⟩
  replace s0 := s0.below ba
  replace s2 := s2.below ba
  replace s3 := s3.below ba
  replace Bz := Bz.under ba
  replace bb := bb.trans (ba.mono bb.size)
  by_cases hbad : 300 < (n : Int) ∨ (n2 : Int) = 0 ∨ 300 < (n2 : Int) ∨ (n3 : Int) = 0 ∨ 300 < (n3 : Int)
  · obtain ⟨z0, z1, z2, z3, _⟩ := Bz.four
    go_wp2_with fail
    all_goals first
      | (go_ret; exact ⟨rfl, bb⟩)
      | (exfalso; go_tidy; simp_all; omega)
  have hb1 : (n : Int) ≤ 300 ∧ 0 < (n2 : Int) ∧ (n2 : Int) ≤ 300 ∧ 0 < (n3 : Int) ∧ (n3 : Int) ≤ 300 := by omega
  clear hbad
  obtain ⟨h1, h2, h3, h4, h5⟩ := hb1
  have e2 : ((n2 : Int) == 0) = false := by simp; omega
  have e3 : ((n3 : Int) == 0) = false := by simp; omega
  obtain ⟨Bzq0, Bzq1, Bzq2, Bzq3, Bzr0, Bzr1, Bzr2, Bzr3⟩ := Bz.four
  have Bzl := Bz.lt
  go_wp2_with fail
  clear Bzq0 Bzq1 Bzq2 Bzq3 Bzr0 Bzr1 Bzr2 Bzr3
  have hC := zCheck_any st rs la size A n c w1
  refine hC.mono ?_
  clear hC
  rintro e w2 ⟨rfl, bc⟩
  replace s0 := s0.below bc
  replace s2 := s2.below bc
  replace s3 := s3.below bc
  replace Bz := Bz.under bc
  replace bb := bb.trans (bc.mono bb.size)
  cases hc : chkF st rs n la size
  · go_wp2
    go_ret
    exact ⟨rfl, bb⟩
  obtain ⟨er1, her1⟩ : ∃ x, Hid (appErrF st rs n la size n2 = x) := ⟨_, rfl⟩
  obtain ⟨st1, hst1⟩ : ∃ x, Hid (appSt st rs n la size n2 = x) := ⟨_, rfl⟩
  obtain ⟨l1, hl1⟩ : ∃ x, Hid (appDa st rs n la size n2 l l2 = x) := ⟨_, rfl⟩
  obtain ⟨m1, hm1⟩ : ∃ x, Hid (l1.length = x) := ⟨_, rfl⟩
  have hm1b : m1 ≤ 600 := by
    have hx := hl0.out
    have hy := hl2.out
    rw [← hm1.out, ← hl1.out, appDa]
    split
    · rw [List.length_append]; omega
    · omega
  obtain ⟨Bzq0, Bzq1, Bzq2, Bzq3, Bzr0, Bzr1, Bzr2, Bzr3⟩ := Bz.four
  have Bzl := Bz.lt
  go_wp2_with fail
  clear Bzq0 Bzq1 Bzq2 Bzq3 Bzr0 Bzr1 Bzr2 Bzr3
  have hC := zAppend_at st rs la size A2 n2 c2 l2 A n c l st1 er1 l1 m1 w2 s0 s2 (by omega) hst1.out hl1.out her1.out hm1.out
  refine hC.mono ?_
  clear hC
  rintro e w4 ⟨A4, c4, rfl, N4, b4⟩
  replace s0 := s0.below b4
  replace s2 := s2.below b4
  replace s3 := s3.below b4
  replace Bz := Bz.under b4
  replace bb := bb.trans (b4.mono bb.size)
  have s4 := N4.sl
  replace s0 := s0.alloc (.cells #[.int .i64 st1, .int .i64 rs, .slice A4 m1 c4, .int .i64 la] 25)
  replace s2 := s2.alloc (.cells #[.int .i64 st1, .int .i64 rs, .slice A4 m1 c4, .int .i64 la] 25)
  replace s3 := s3.alloc (.cells #[.int .i64 st1, .int .i64 rs, .slice A4 m1 c4, .int .i64 la] 25)
  replace Bz := Bz.alloc (.cells #[.int .i64 st1, .int .i64 rs, .slice A4 m1 c4, .int .i64 la] 25)
  replace s4 := s4.alloc (.cells #[.int .i64 st1, .int .i64 rs, .slice A4 m1 c4, .int .i64 la] 25)
  replace bb := bb.alloc bb.size (.cells #[.int .i64 st1, .int .i64 rs, .slice A4 m1 c4, .int .i64 la] 25)
  have Bx := Blk.new w4 #[.int .i64 st1, .int .i64 rs, .slice A4 m1 c4, .int .i64 la] 25
  go_wp2_with fail
  generalize (w4.alloc (.cells #[.int .i64 st1, .int .i64 rs, .slice A4 m1 c4, .int .i64 la] 25)) = W2 at *
  obtain ⟨er2, her2⟩ : ∃ x, Hid (appErrF st1 rs m1 la size n3 = x) := ⟨_, rfl⟩
  obtain ⟨st2, hst2⟩ : ∃ x, Hid (appSt st1 rs m1 la size n3 = x) := ⟨_, rfl⟩
  obtain ⟨l5, hl5⟩ : ∃ x, Hid (appDa st1 rs m1 la size n3 l1 l3 = x) := ⟨_, rfl⟩
  obtain ⟨m2, hm2⟩ : ∃ x, Hid (l5.length = x) := ⟨_, rfl⟩
  have hC := zAppend_at st1 rs la size A3 n3 c3 l3 A4 m1 c4 l1 st2 er2 l5 m2 W2 s4 s3 (by omega) hst2.out hl5.out her2.out hm2.out
  refine hC.mono ?_
  clear hC
  rintro e w5 ⟨A5, c5, rfl, N5, b5⟩
  replace s0 := s0.below b5
  replace s2 := s2.below b5
  replace s3 := s3.below b5
  replace Bz := Bz.under b5
  replace s4 := s4.below b5
  replace Bx := Bx.under b5
  replace bb := bb.trans (b5.mono bb.size)
  have s5 := N5.sl
  replace s0 := s0.alloc (.cells #[.int .i64 st2, .int .i64 rs, .slice A5 m2 c5, .int .i64 la] 25)
  replace s2 := s2.alloc (.cells #[.int .i64 st2, .int .i64 rs, .slice A5 m2 c5, .int .i64 la] 25)
  replace s3 := s3.alloc (.cells #[.int .i64 st2, .int .i64 rs, .slice A5 m2 c5, .int .i64 la] 25)
  replace Bz := Bz.alloc (.cells #[.int .i64 st2, .int .i64 rs, .slice A5 m2 c5, .int .i64 la] 25)
  replace s4 := s4.alloc (.cells #[.int .i64 st2, .int .i64 rs, .slice A5 m2 c5, .int .i64 la] 25)
  replace Bx := Bx.alloc (.cells #[.int .i64 st2, .int .i64 rs, .slice A5 m2 c5, .int .i64 la] 25)
  replace s5 := s5.alloc (.cells #[.int .i64 st2, .int .i64 rs, .slice A5 m2 c5, .int .i64 la] 25)
  replace bb := bb.alloc bb.size (.cells #[.int .i64 st2, .int .i64 rs, .slice A5 m2 c5, .int .i64 la] 25)
  have By := Blk.new w5 #[.int .i64 st2, .int .i64 rs, .slice A5 m2 c5, .int .i64 la] 25
  go_wp2_with fail
  generalize (w5.alloc (.cells #[.int .i64 st2, .int .i64 rs, .slice A5 m2 c5, .int .i64 la] 25)) = W3 at *
  obtain ⟨er3, her3⟩ : ∃ x, Hid (appErrF st rs n la size ((n2 + n3 : Nat) : Int) = x) := ⟨_, rfl⟩
  obtain ⟨st3, hst3⟩ : ∃ x, Hid (appSt st rs n la size ((n2 + n3 : Nat) : Int) = x) := ⟨_, rfl⟩
  obtain ⟨l6, hl6⟩ : ∃ x, Hid (appDa st rs n la size ((n2 + n3 : Nat) : Int) l (l2 ++ l3) = x) := ⟨_, rfl⟩
  obtain ⟨m3, hm3⟩ : ∃ x, Hid (l6.length = x) := ⟨_, rfl⟩
  refine region_join (α := Nat → Option Addr → Nat → Value → Value → Value → Act) (R := fun T a w' => ∃ kv A6 c6 u68 u70 u72, a = T kv A6 c6 u68 u70 u72 ∧ Blk w' kv #[.int .i64 st3, .int .i64 rs, .slice A6 m3 c6, .int .i64 la] 25 ∧ Sl w' A6 m3 c6 (l6.map v8) ∧ Below W3.heap.size W3 w') ?T ?body ?rest
  case body =>
    refine wp_region_held_drew (S := fun w' => Below W3.heap.size W3 w') (by kernel_rfl) (Below.refl _ _).drew (fun hHeld => ?_)
    have b := hHeld
    generalize W3.drew = wd at *
    try simp only [Act.put, List.setIfInBounds_toArray, List.set_cons_zero, List.set_cons_succ]
    refine wpAnyH_take (i := 0) (v := ?_) (by simp only [List.getElem?_toArray, List.getElem?_cons_zero]; rfl) (by kernel_rfl) (by kernel_rfl) (by kernel_rfl) (by intro _ _ _ h; exact nomatch h.1) (Or.inl ⟨by rfl, ?_⟩) hHeld ?_
    rotate_left 1
    · intro wq hSw
      try dsimp only at hSw
      obtain ⟨x0, x1, x2, x3, _⟩ := (Bz.under hSw).four
      go_simp
      try (with_reducible rfl)
    try simp only [Act.put, List.setIfInBounds_toArray, List.set_cons_zero, List.set_cons_succ]
    refine wpAnyH_take (i := 1) (v := ?_) (by simp only [List.getElem?_toArray, List.getElem?_cons_succ, List.getElem?_cons_zero]; rfl) (by kernel_rfl) (by kernel_rfl) (by kernel_rfl) (by intro _ _ _ h; exact nomatch h.1) (Or.inl ⟨by rfl, ?_⟩) hHeld ?_
    rotate_left 1
    · intro wq hSw
      try dsimp only at hSw
      go_simp
      try (with_reducible rfl)
    try simp only [Act.put, List.setIfInBounds_toArray, List.set_cons_zero, List.set_cons_succ]
    refine wpAnyH_take (i := 3) (v := ?_) (by simp only [List.getElem?_toArray, List.getElem?_cons_succ, List.getElem?_cons_zero]; rfl) (by kernel_rfl) (by kernel_rfl) (by kernel_rfl) (by intro _ _ _ h; exact nomatch h.1) (Or.inl ⟨by rfl, ?_⟩) hHeld ?_
    rotate_left 1
    · intro wq hSw
      try dsimp only at hSw
      go_simp
      try (with_reducible rfl)
    try simp only [Act.put, List.setIfInBounds_toArray, List.set_cons_zero, List.set_cons_succ]
    refine wpAnyH_take (i := 5) (v := ?_) (by simp only [List.getElem?_toArray, List.getElem?_cons_succ, List.getElem?_cons_zero]; rfl) (by kernel_rfl) (by kernel_rfl) (by kernel_rfl) (by intro _ _ _ h; exact nomatch h.1) (Or.inl ⟨by rfl, ?_⟩) hHeld ?_
    rotate_left 1
    · intro wq hSw
      try dsimp only at hSw
      go_simp
      try (with_reducible rfl)
    try simp only [Act.put, List.setIfInBounds_toArray, List.set_cons_zero, List.set_cons_succ]
    refine wpAnyH_ready (rs := [2, 11]) (by kernel_rfl) (by simp) ?_
    refine AllReadyH.cons (by simp only [List.getElem?_toArray, List.getElem?_cons_succ, List.getElem?_cons_zero]; rfl) (fun K hK => ?_) (AllReadyH.cons (by simp only [List.getElem?_toArray, List.getElem?_cons_succ, List.getElem?_cons_zero]; rfl) (fun K hK => ?_) AllReadyH.nil)
    · skip
      go_simp
      have O := built_own wd #[] 5 [] 0 rfl rfl (by decide) b.size
      replace b := b.alloc b.size (.cells #[] 5)
      generalize hu68 : Value.slice (some ⟨wd.heap.size, 0, none⟩) 0 0 = u68 at *
      generalize wd.alloc (.cells #[] 5) = w_2_1 at *
      refine hK.out _ _ b (fun hHeld => ?_)
      clear hK K
      try simp only [Act.put, List.setIfInBounds_toArray, List.set_cons_zero, List.set_cons_succ]
      refine wpAnyH_ready (rs := [4, 11]) (by kernel_rfl) (by simp) ?_
      refine AllReadyH.cons (by simp only [List.getElem?_toArray, List.getElem?_cons_succ, List.getElem?_cons_zero]; rfl) (fun K hK => ?_) (AllReadyH.cons (by simp only [List.getElem?_toArray, List.getElem?_cons_succ, List.getElem?_cons_zero]; rfl) (fun K hK => ?_) AllReadyH.nil)
      · skip
        obtain ⟨Ar, cr, w_4_2, hr, hO⟩ := run_app (P := Try.prog) (Own.start O b.size) 23 23 i0 (.int .u8 0) 1 Try.underlying23 hi hz0 hz1 hz2 rfl _ _ _ _ (s2.below b) (oneCell8 _) (by omega) (by omega)
        refine (if_pos (by rfl)).mpr (wp_app (Operand.tmp 68) (Operand.tmp 69) 23 rfl rfl rfl hr ?_)
        try simp only [Act.put, List.setIfInBounds_toArray, List.set_cons_zero, List.set_cons_succ]
        replace b := own_below O hO b
        replace O := hO.own
        generalize hu70 : Value.slice Ar (0 + n2) cr = u70 at *
        clear hr hO
        refine hK.out _ _ b (fun hHeld => ?_)
        clear hK K
        try simp only [Act.put, List.setIfInBounds_toArray, List.set_cons_zero, List.set_cons_succ]
        refine wpAnyH_ready (rs := [6, 11]) (by kernel_rfl) (by simp) ?_
        refine AllReadyH.cons (by simp only [List.getElem?_toArray, List.getElem?_cons_succ, List.getElem?_cons_zero]; rfl) (fun K hK => ?_) (AllReadyH.cons (by simp only [List.getElem?_toArray, List.getElem?_cons_succ, List.getElem?_cons_zero]; rfl) (fun K hK => ?_) AllReadyH.nil)
        · skip
          obtain ⟨Ar, cr, w_6_3, hr, hO⟩ := run_app (P := Try.prog) (Own.start O b.size) 23 23 i0 (.int .u8 0) 1 Try.underlying23 hi hz0 hz1 hz2 rfl _ _ _ _ (s3.below b) (oneCell8 _) (by omega) (by omega)
          refine (if_pos (by rfl)).mpr (wp_app (Operand.tmp 70) (Operand.tmp 71) 23 rfl rfl rfl hr ?_)
          try simp only [Act.put, List.setIfInBounds_toArray, List.set_cons_zero, List.set_cons_succ]
          replace b := own_below O hO b
          replace O := hO.own
          rw [List.nil_append, ← List.map_append] at O
          generalize hu72 : Value.slice Ar (0 + n2 + n3) cr = u72 at *
          clear hr hO
          refine hK.out _ _ b (fun hHeld => ?_)
          clear hK K
          try simp only [Act.put, List.setIfInBounds_toArray, List.set_cons_zero, List.set_cons_succ]
          refine wpAnyH_ready (rs := [7, 11]) (by kernel_rfl) (by simp) ?_
          refine AllReadyH.cons (by simp only [List.getElem?_toArray, List.getElem?_cons_succ, List.getElem?_cons_zero]; rfl) (fun K hK => ?_) (AllReadyH.cons (by simp only [List.getElem?_toArray, List.getElem?_cons_succ, List.getElem?_cons_zero]; rfl) (fun K hK => ?_) AllReadyH.nil)
          · skip
            have hSl := sl_of_eq hu72 O
            have hC := zAppend_at st rs la size _ _ _ (l2 ++ l3) A n c l st3 er3 l6 m3 w_6_3 (s0.below b) hSl (by omega) (by simpa using hst3.out) (by simpa using hl6.out) (by simpa using her3.out) hm3.out
            rw [hu72] at hC
            go_simp
            refine hC.mono ?_
            rintro e w_7_4 ⟨A6, c6, rfl, N, bC⟩
            go_wp2_with fail
            replace b := b.trans (bC.mono b.size)
            clear hC
            refine hK.out _ _ b (fun hHeld => ?_)
            clear hK K
            try simp only [Act.put, List.setIfInBounds_toArray, List.set_cons_zero, List.set_cons_succ]
            refine wpAnyH_take (i := 8) (v := ?_) (by simp only [List.getElem?_toArray, List.getElem?_cons_succ, List.getElem?_cons_zero]; rfl) (by kernel_rfl) (by kernel_rfl) (by kernel_rfl) (by intro _ _ _ h; exact nomatch h.1) (Or.inl ⟨by rfl, ?_⟩) hHeld ?_
            rotate_left 1
            · intro wq hSw
              try dsimp only at hSw
              go_simp
              try (with_reducible rfl)
            try simp only [Act.put, List.setIfInBounds_toArray, List.set_cons_zero, List.set_cons_succ]
            refine wpAnyH_take (i := 9) (v := ?_) (by simp only [List.getElem?_toArray, List.getElem?_cons_succ, List.getElem?_cons_zero]; rfl) (by kernel_rfl) (by kernel_rfl) (by kernel_rfl) (by intro _ _ _ h; exact nomatch h.1) (Or.inl ⟨by rfl, ?_⟩) hHeld ?_
            rotate_left 1
            · intro wq hSw
              try dsimp only at hSw
              go_simp
              try (with_reducible rfl)
            try simp only [Act.put, List.setIfInBounds_toArray, List.set_cons_zero, List.set_cons_succ]
            refine wpAnyH_take (i := 10) (v := ?_) (by simp only [List.getElem?_toArray, List.getElem?_cons_succ, List.getElem?_cons_zero]; rfl) (by kernel_rfl) (by kernel_rfl) (by kernel_rfl) (by intro _ _ _ h; exact nomatch h.1) (Or.inl ⟨by rfl, ?_⟩) hHeld ?_
            rotate_left 1
            · intro wq hSw
              try dsimp only at hSw
              go_simp
              try (with_reducible rfl)
            try simp only [Act.put, List.setIfInBounds_toArray, List.set_cons_zero, List.set_cons_succ]
            refine wpAnyH_ready (rs := [11]) (by kernel_rfl) (by simp) ?_
            refine AllReadyH.cons (by simp only [List.getElem?_toArray, List.getElem?_cons_succ, List.getElem?_cons_zero]; rfl) (fun K hK => ?_) AllReadyH.nil
            obtain ⟨kv, hkv⟩ : ∃ k, w_7_4.heap.size = k := ⟨_, rfl⟩
            go_simp
            try simp only [hkv]
            have V := Blk.new w_7_4 #[.int .i64 0, .int .i64 0, .slice none 0 0, .int .i64 0] 25
            rw [hkv] at V
            have hcv : W3.heap.size ≤ kv := by rw [← hkv]; exact b.size
            have hneA := ownA_ne N (Nat.le_of_eq hkv)
            replace N := World.ownsRow.alloc N (.cells #[.int .i64 0, .int .i64 0, .slice none 0 0, .int .i64 0] 25)
            skip
            replace b := b.alloc b.size (.cells #[.int .i64 0, .int .i64 0, .slice none 0 0, .int .i64 0] 25)
            generalize w_7_4.alloc (.cells #[.int .i64 0, .int .i64 0, .slice none 0 0, .int .i64 0] 25) = w_11_5 at *
            refine hK.out _ _ b (fun hHeld => ?_)
            clear hK K
            try simp only [Act.put, List.setIfInBounds_toArray, List.set_cons_zero, List.set_cons_succ]
            refine wpAnyH_ready (rs := [12]) (by kernel_rfl) (by simp) ?_
            refine AllReadyH.cons (by simp only [List.getElem?_toArray, List.getElem?_cons_succ, List.getElem?_cons_zero]; rfl) (fun K hK => ?_) AllReadyH.nil
            obtain ⟨z0, z1, z2, z3, i0', i1', i2', i3'⟩ := V.four
            go_simp
            skip
            have V2 := ((((V.set 0 (.int .i64 st3)).set 1 (.int .i64 rs)).set 2 (.slice A6 m3 c6)).set 3 (.int .i64 la))
            simp only [List.setIfInBounds_toArray, List.set_cons_zero, List.set_cons_succ] at V2
            have N2 := (own_far (own_far (own_far (own_far N (a := ⟨kv, 0, none⟩) hneA (.int .i64 st3)) (a := ⟨kv, 1, none⟩) hneA (.int .i64 rs)) (a := ⟨kv, 2, none⟩) hneA (.slice A6 m3 c6)) (a := ⟨kv, 3, none⟩) hneA (.int .i64 la))
            have b2 := ((((b.setCell (p := ⟨kv, 0, none⟩) hcv (.int .i64 st3)).setCell (p := ⟨kv, 1, none⟩) hcv (.int .i64 rs)).setCell (p := ⟨kv, 2, none⟩) hcv (.slice A6 m3 c6)).setCell (p := ⟨kv, 3, none⟩) hcv (.int .i64 la))
            clear z0 z1 z2 z3 i0' i1' i2' i3'
            clear V N b
            generalize ((((w_11_5.setCell ⟨kv, 0, none⟩ (.int .i64 st3)).setCell ⟨kv, 1, none⟩ (.int .i64 rs)).setCell ⟨kv, 2, none⟩ (.slice A6 m3 c6)).setCell ⟨kv, 3, none⟩ (.int .i64 la)) = w_12_6 at *
            have V := V2
            have N := N2
            have b := b2
            clear V2 N2 b2
            refine hK.out _ _ b (fun hHeld => ?_)
            clear hK K
            try simp only [Act.put, List.setIfInBounds_toArray, List.set_cons_zero, List.set_cons_succ]
            refine wpAnyH_take (i := 13) (v := ?_) (by simp only [List.getElem?_toArray, List.getElem?_cons_succ, List.getElem?_cons_zero]; rfl) (by kernel_rfl) (by kernel_rfl) (by kernel_rfl) (by intro _ _ _ h; exact nomatch h.1) (Or.inl ⟨by rfl, ?_⟩) hHeld ?_
            rotate_left 1
            · intro wq hSw
              try dsimp only at hSw
              go_simp
              try (with_reducible rfl)
            try simp only [Act.put, List.setIfInBounds_toArray, List.set_cons_zero, List.set_cons_succ]
            refine wpAnyH_done (by kernel_rfl) ?_ _
            refine ⟨rfl, kv, A6, c6, u68, u70, u72, ?_, V, Sl.of_own N, b⟩
            with_reducible rfl
          · skip
            obtain ⟨kv, hkv⟩ : ∃ k, w_6_3.heap.size = k := ⟨_, rfl⟩
            go_simp
            try simp only [hkv]
            have V := Blk.new w_6_3 #[.int .i64 0, .int .i64 0, .slice none 0 0, .int .i64 0] 25
            rw [hkv] at V
            have hcv : W3.heap.size ≤ kv := by rw [← hkv]; exact b.size
            have hneU := own_ne O (Nat.le_of_eq hkv)
            replace O := World.ownsRow.alloc O (.cells #[.int .i64 0, .int .i64 0, .slice none 0 0, .int .i64 0] 25)
            skip
            replace b := b.alloc b.size (.cells #[.int .i64 0, .int .i64 0, .slice none 0 0, .int .i64 0] 25)
            generalize w_6_3.alloc (.cells #[.int .i64 0, .int .i64 0, .slice none 0 0, .int .i64 0] 25) = w_11_4 at *
            refine hK.out _ _ b (fun hHeld => ?_)
            clear hK K
            try simp only [Act.put, List.setIfInBounds_toArray, List.set_cons_zero, List.set_cons_succ]
            refine wpAnyH_ready (rs := [7]) (by kernel_rfl) (by simp) ?_
            refine AllReadyH.cons (by simp only [List.getElem?_toArray, List.getElem?_cons_succ, List.getElem?_cons_zero]; rfl) (fun K hK => ?_) AllReadyH.nil
            have hSl := sl_of_eq hu72 O
            have hC := zAppend_at st rs la size _ _ _ (l2 ++ l3) A n c l st3 er3 l6 m3 w_11_4 (s0.below b) hSl (by omega) (by simpa using hst3.out) (by simpa using hl6.out) (by simpa using her3.out) hm3.out
            rw [hu72] at hC
            go_simp
            refine hC.mono ?_
            rintro e w_7_5 ⟨A6, c6, rfl, N, bC⟩
            go_wp2_with fail
            have hneA := nw_ne N V.lt
            replace V := V.under bC
            replace b := b.trans (bC.mono b.size)
            clear hC
            refine hK.out _ _ b (fun hHeld => ?_)
            clear hK K
            try simp only [Act.put, List.setIfInBounds_toArray, List.set_cons_zero, List.set_cons_succ]
            refine wpAnyH_take (i := 8) (v := ?_) (by simp only [List.getElem?_toArray, List.getElem?_cons_succ, List.getElem?_cons_zero]; rfl) (by kernel_rfl) (by kernel_rfl) (by kernel_rfl) (by intro _ _ _ h; exact nomatch h.1) (Or.inl ⟨by rfl, ?_⟩) hHeld ?_
            rotate_left 1
            · intro wq hSw
              try dsimp only at hSw
              go_simp
              try (with_reducible rfl)
            try simp only [Act.put, List.setIfInBounds_toArray, List.set_cons_zero, List.set_cons_succ]
            refine wpAnyH_take (i := 9) (v := ?_) (by simp only [List.getElem?_toArray, List.getElem?_cons_succ, List.getElem?_cons_zero]; rfl) (by kernel_rfl) (by kernel_rfl) (by kernel_rfl) (by intro _ _ _ h; exact nomatch h.1) (Or.inl ⟨by rfl, ?_⟩) hHeld ?_
            rotate_left 1
            · intro wq hSw
              try dsimp only at hSw
              go_simp
              try (with_reducible rfl)
            try simp only [Act.put, List.setIfInBounds_toArray, List.set_cons_zero, List.set_cons_succ]
            refine wpAnyH_take (i := 10) (v := ?_) (by simp only [List.getElem?_toArray, List.getElem?_cons_succ, List.getElem?_cons_zero]; rfl) (by kernel_rfl) (by kernel_rfl) (by kernel_rfl) (by intro _ _ _ h; exact nomatch h.1) (Or.inl ⟨by rfl, ?_⟩) hHeld ?_
            rotate_left 1
            · intro wq hSw
              try dsimp only at hSw
              go_simp
              try (with_reducible rfl)
            try simp only [Act.put, List.setIfInBounds_toArray, List.set_cons_zero, List.set_cons_succ]
            refine wpAnyH_ready (rs := [12]) (by kernel_rfl) (by simp) ?_
            refine AllReadyH.cons (by simp only [List.getElem?_toArray, List.getElem?_cons_succ, List.getElem?_cons_zero]; rfl) (fun K hK => ?_) AllReadyH.nil
            obtain ⟨z0, z1, z2, z3, i0', i1', i2', i3'⟩ := V.four
            go_simp
            skip
            have V2 := ((((V.set 0 (.int .i64 st3)).set 1 (.int .i64 rs)).set 2 (.slice A6 m3 c6)).set 3 (.int .i64 la))
            simp only [List.setIfInBounds_toArray, List.set_cons_zero, List.set_cons_succ] at V2
            have N2 := (own_far (own_far (own_far (own_far N (a := ⟨kv, 0, none⟩) hneA (.int .i64 st3)) (a := ⟨kv, 1, none⟩) hneA (.int .i64 rs)) (a := ⟨kv, 2, none⟩) hneA (.slice A6 m3 c6)) (a := ⟨kv, 3, none⟩) hneA (.int .i64 la))
            have b2 := ((((b.setCell (p := ⟨kv, 0, none⟩) hcv (.int .i64 st3)).setCell (p := ⟨kv, 1, none⟩) hcv (.int .i64 rs)).setCell (p := ⟨kv, 2, none⟩) hcv (.slice A6 m3 c6)).setCell (p := ⟨kv, 3, none⟩) hcv (.int .i64 la))
            clear z0 z1 z2 z3 i0' i1' i2' i3'
            clear V N b
            generalize ((((w_7_5.setCell ⟨kv, 0, none⟩ (.int .i64 st3)).setCell ⟨kv, 1, none⟩ (.int .i64 rs)).setCell ⟨kv, 2, none⟩ (.slice A6 m3 c6)).setCell ⟨kv, 3, none⟩ (.int .i64 la)) = w_12_6 at *
            have V := V2
            have N := N2
            have b := b2
            clear V2 N2 b2
            refine hK.out _ _ b (fun hHeld => ?_)
            clear hK K
            try simp only [Act.put, List.setIfInBounds_toArray, List.set_cons_zero, List.set_cons_succ]
            refine wpAnyH_take (i := 13) (v := ?_) (by simp only [List.getElem?_toArray, List.getElem?_cons_succ, List.getElem?_cons_zero]; rfl) (by kernel_rfl) (by kernel_rfl) (by kernel_rfl) (by intro _ _ _ h; exact nomatch h.1) (Or.inl ⟨by rfl, ?_⟩) hHeld ?_
            rotate_left 1
            · intro wq hSw
              try dsimp only at hSw
              go_simp
              try (with_reducible rfl)
            try simp only [Act.put, List.setIfInBounds_toArray, List.set_cons_zero, List.set_cons_succ]
            refine wpAnyH_done (by kernel_rfl) ?_ _
            refine ⟨rfl, kv, A6, c6, u68, u70, u72, ?_, V, Sl.of_own N, b⟩
            with_reducible rfl
        · skip
          obtain ⟨kv, hkv⟩ : ∃ k, w_4_2.heap.size = k := ⟨_, rfl⟩
          go_simp
          try simp only [hkv]
          have V := Blk.new w_4_2 #[.int .i64 0, .int .i64 0, .slice none 0 0, .int .i64 0] 25
          rw [hkv] at V
          have hcv : W3.heap.size ≤ kv := by rw [← hkv]; exact b.size
          have hneU := own_ne O (Nat.le_of_eq hkv)
          replace O := World.ownsRow.alloc O (.cells #[.int .i64 0, .int .i64 0, .slice none 0 0, .int .i64 0] 25)
          skip
          replace b := b.alloc b.size (.cells #[.int .i64 0, .int .i64 0, .slice none 0 0, .int .i64 0] 25)
          generalize w_4_2.alloc (.cells #[.int .i64 0, .int .i64 0, .slice none 0 0, .int .i64 0] 25) = w_11_3 at *
          refine hK.out _ _ b (fun hHeld => ?_)
          clear hK K
          try simp only [Act.put, List.setIfInBounds_toArray, List.set_cons_zero, List.set_cons_succ]
          refine wpAnyH_ready (rs := [6]) (by kernel_rfl) (by simp) ?_
          refine AllReadyH.cons (by simp only [List.getElem?_toArray, List.getElem?_cons_succ, List.getElem?_cons_zero]; rfl) (fun K hK => ?_) AllReadyH.nil
          obtain ⟨Ar, cr, w_6_4, hr, hO⟩ := run_app (P := Try.prog) (Own.start O b.size) 23 23 i0 (.int .u8 0) 1 Try.underlying23 hi hz0 hz1 hz2 rfl _ _ _ _ (s3.below b) (oneCell8 _) (by omega) (by omega)
          refine (if_pos (by rfl)).mpr (wp_app (Operand.tmp 70) (Operand.tmp 71) 23 rfl rfl rfl hr ?_)
          try simp only [Act.put, List.setIfInBounds_toArray, List.set_cons_zero, List.set_cons_succ]
          have hneU2 := own_ne_step hO hneU V.lt
          replace V := V.own hO hneU
          replace hneU := hneU2
          clear hneU2
          replace b := own_below O hO b
          replace O := hO.own
          rw [List.nil_append, ← List.map_append] at O
          generalize hu72 : Value.slice Ar (0 + n2 + n3) cr = u72 at *
          clear hr hO
          refine hK.out _ _ b (fun hHeld => ?_)
          clear hK K
          try simp only [Act.put, List.setIfInBounds_toArray, List.set_cons_zero, List.set_cons_succ]
          refine wpAnyH_ready (rs := [7]) (by kernel_rfl) (by simp) ?_
          refine AllReadyH.cons (by simp only [List.getElem?_toArray, List.getElem?_cons_succ, List.getElem?_cons_zero]; rfl) (fun K hK => ?_) AllReadyH.nil
          have hSl := sl_of_eq hu72 O
          have hC := zAppend_at st rs la size _ _ _ (l2 ++ l3) A n c l st3 er3 l6 m3 w_6_4 (s0.below b) hSl (by omega) (by simpa using hst3.out) (by simpa using hl6.out) (by simpa using her3.out) hm3.out
          rw [hu72] at hC
          go_simp
          refine hC.mono ?_
          rintro e w_7_5 ⟨A6, c6, rfl, N, bC⟩
          go_wp2_with fail
          have hneA := nw_ne N V.lt
          replace V := V.under bC
          replace b := b.trans (bC.mono b.size)
          clear hC
          refine hK.out _ _ b (fun hHeld => ?_)
          clear hK K
          try simp only [Act.put, List.setIfInBounds_toArray, List.set_cons_zero, List.set_cons_succ]
          refine wpAnyH_take (i := 8) (v := ?_) (by simp only [List.getElem?_toArray, List.getElem?_cons_succ, List.getElem?_cons_zero]; rfl) (by kernel_rfl) (by kernel_rfl) (by kernel_rfl) (by intro _ _ _ h; exact nomatch h.1) (Or.inl ⟨by rfl, ?_⟩) hHeld ?_
          rotate_left 1
          · intro wq hSw
            try dsimp only at hSw
            go_simp
            try (with_reducible rfl)
          try simp only [Act.put, List.setIfInBounds_toArray, List.set_cons_zero, List.set_cons_succ]
          refine wpAnyH_take (i := 9) (v := ?_) (by simp only [List.getElem?_toArray, List.getElem?_cons_succ, List.getElem?_cons_zero]; rfl) (by kernel_rfl) (by kernel_rfl) (by kernel_rfl) (by intro _ _ _ h; exact nomatch h.1) (Or.inl ⟨by rfl, ?_⟩) hHeld ?_
          rotate_left 1
          · intro wq hSw
            try dsimp only at hSw
            go_simp
            try (with_reducible rfl)
          try simp only [Act.put, List.setIfInBounds_toArray, List.set_cons_zero, List.set_cons_succ]
          refine wpAnyH_take (i := 10) (v := ?_) (by simp only [List.getElem?_toArray, List.getElem?_cons_succ, List.getElem?_cons_zero]; rfl) (by kernel_rfl) (by kernel_rfl) (by kernel_rfl) (by intro _ _ _ h; exact nomatch h.1) (Or.inl ⟨by rfl, ?_⟩) hHeld ?_
          rotate_left 1
          · intro wq hSw
            try dsimp only at hSw
            go_simp
            try (with_reducible rfl)
          try simp only [Act.put, List.setIfInBounds_toArray, List.set_cons_zero, List.set_cons_succ]
          refine wpAnyH_ready (rs := [12]) (by kernel_rfl) (by simp) ?_
          refine AllReadyH.cons (by simp only [List.getElem?_toArray, List.getElem?_cons_succ, List.getElem?_cons_zero]; rfl) (fun K hK => ?_) AllReadyH.nil
          obtain ⟨z0, z1, z2, z3, i0', i1', i2', i3'⟩ := V.four
          go_simp
          skip
          have V2 := ((((V.set 0 (.int .i64 st3)).set 1 (.int .i64 rs)).set 2 (.slice A6 m3 c6)).set 3 (.int .i64 la))
          simp only [List.setIfInBounds_toArray, List.set_cons_zero, List.set_cons_succ] at V2
          have N2 := (own_far (own_far (own_far (own_far N (a := ⟨kv, 0, none⟩) hneA (.int .i64 st3)) (a := ⟨kv, 1, none⟩) hneA (.int .i64 rs)) (a := ⟨kv, 2, none⟩) hneA (.slice A6 m3 c6)) (a := ⟨kv, 3, none⟩) hneA (.int .i64 la))
          have b2 := ((((b.setCell (p := ⟨kv, 0, none⟩) hcv (.int .i64 st3)).setCell (p := ⟨kv, 1, none⟩) hcv (.int .i64 rs)).setCell (p := ⟨kv, 2, none⟩) hcv (.slice A6 m3 c6)).setCell (p := ⟨kv, 3, none⟩) hcv (.int .i64 la))
          clear z0 z1 z2 z3 i0' i1' i2' i3'
          clear V N b
          generalize ((((w_7_5.setCell ⟨kv, 0, none⟩ (.int .i64 st3)).setCell ⟨kv, 1, none⟩ (.int .i64 rs)).setCell ⟨kv, 2, none⟩ (.slice A6 m3 c6)).setCell ⟨kv, 3, none⟩ (.int .i64 la)) = w_12_6 at *
          have V := V2
          have N := N2
          have b := b2
          clear V2 N2 b2
          refine hK.out _ _ b (fun hHeld => ?_)
          clear hK K
          try simp only [Act.put, List.setIfInBounds_toArray, List.set_cons_zero, List.set_cons_succ]
          refine wpAnyH_take (i := 13) (v := ?_) (by simp only [List.getElem?_toArray, List.getElem?_cons_succ, List.getElem?_cons_zero]; rfl) (by kernel_rfl) (by kernel_rfl) (by kernel_rfl) (by intro _ _ _ h; exact nomatch h.1) (Or.inl ⟨by rfl, ?_⟩) hHeld ?_
          rotate_left 1
          · intro wq hSw
            try dsimp only at hSw
            go_simp
            try (with_reducible rfl)
          try simp only [Act.put, List.setIfInBounds_toArray, List.set_cons_zero, List.set_cons_succ]
          refine wpAnyH_done (by kernel_rfl) ?_ _
          refine ⟨rfl, kv, A6, c6, u68, u70, u72, ?_, V, Sl.of_own N, b⟩
          with_reducible rfl
      · skip
        obtain ⟨kv, hkv⟩ : ∃ k, w_2_1.heap.size = k := ⟨_, rfl⟩
        go_simp
        try simp only [hkv]
        have V := Blk.new w_2_1 #[.int .i64 0, .int .i64 0, .slice none 0 0, .int .i64 0] 25
        rw [hkv] at V
        have hcv : W3.heap.size ≤ kv := by rw [← hkv]; exact b.size
        have hneU := own_ne O (Nat.le_of_eq hkv)
        replace O := World.ownsRow.alloc O (.cells #[.int .i64 0, .int .i64 0, .slice none 0 0, .int .i64 0] 25)
        skip
        replace b := b.alloc b.size (.cells #[.int .i64 0, .int .i64 0, .slice none 0 0, .int .i64 0] 25)
        generalize w_2_1.alloc (.cells #[.int .i64 0, .int .i64 0, .slice none 0 0, .int .i64 0] 25) = w_11_2 at *
        refine hK.out _ _ b (fun hHeld => ?_)
        clear hK K
        try simp only [Act.put, List.setIfInBounds_toArray, List.set_cons_zero, List.set_cons_succ]
        refine wpAnyH_ready (rs := [4]) (by kernel_rfl) (by simp) ?_
        refine AllReadyH.cons (by simp only [List.getElem?_toArray, List.getElem?_cons_succ, List.getElem?_cons_zero]; rfl) (fun K hK => ?_) AllReadyH.nil
        obtain ⟨Ar, cr, w_4_3, hr, hO⟩ := run_app (P := Try.prog) (Own.start O b.size) 23 23 i0 (.int .u8 0) 1 Try.underlying23 hi hz0 hz1 hz2 rfl _ _ _ _ (s2.below b) (oneCell8 _) (by omega) (by omega)
        refine (if_pos (by rfl)).mpr (wp_app (Operand.tmp 68) (Operand.tmp 69) 23 rfl rfl rfl hr ?_)
        try simp only [Act.put, List.setIfInBounds_toArray, List.set_cons_zero, List.set_cons_succ]
        have hneU2 := own_ne_step hO hneU V.lt
        replace V := V.own hO hneU
        replace hneU := hneU2
        clear hneU2
        replace b := own_below O hO b
        replace O := hO.own
        generalize hu70 : Value.slice Ar (0 + n2) cr = u70 at *
        clear hr hO
        refine hK.out _ _ b (fun hHeld => ?_)
        clear hK K
        try simp only [Act.put, List.setIfInBounds_toArray, List.set_cons_zero, List.set_cons_succ]
        refine wpAnyH_ready (rs := [6]) (by kernel_rfl) (by simp) ?_
        refine AllReadyH.cons (by simp only [List.getElem?_toArray, List.getElem?_cons_succ, List.getElem?_cons_zero]; rfl) (fun K hK => ?_) AllReadyH.nil
        obtain ⟨Ar, cr, w_6_4, hr, hO⟩ := run_app (P := Try.prog) (Own.start O b.size) 23 23 i0 (.int .u8 0) 1 Try.underlying23 hi hz0 hz1 hz2 rfl _ _ _ _ (s3.below b) (oneCell8 _) (by omega) (by omega)
        refine (if_pos (by rfl)).mpr (wp_app (Operand.tmp 70) (Operand.tmp 71) 23 rfl rfl rfl hr ?_)
        try simp only [Act.put, List.setIfInBounds_toArray, List.set_cons_zero, List.set_cons_succ]
        have hneU2 := own_ne_step hO hneU V.lt
        replace V := V.own hO hneU
        replace hneU := hneU2
        clear hneU2
        replace b := own_below O hO b
        replace O := hO.own
        rw [List.nil_append, ← List.map_append] at O
        generalize hu72 : Value.slice Ar (0 + n2 + n3) cr = u72 at *
        clear hr hO
        refine hK.out _ _ b (fun hHeld => ?_)
        clear hK K
        try simp only [Act.put, List.setIfInBounds_toArray, List.set_cons_zero, List.set_cons_succ]
        refine wpAnyH_ready (rs := [7]) (by kernel_rfl) (by simp) ?_
        refine AllReadyH.cons (by simp only [List.getElem?_toArray, List.getElem?_cons_succ, List.getElem?_cons_zero]; rfl) (fun K hK => ?_) AllReadyH.nil
        have hSl := sl_of_eq hu72 O
        have hC := zAppend_at st rs la size _ _ _ (l2 ++ l3) A n c l st3 er3 l6 m3 w_6_4 (s0.below b) hSl (by omega) (by simpa using hst3.out) (by simpa using hl6.out) (by simpa using her3.out) hm3.out
        rw [hu72] at hC
        go_simp
        refine hC.mono ?_
        rintro e w_7_5 ⟨A6, c6, rfl, N, bC⟩
        go_wp2_with fail
        have hneA := nw_ne N V.lt
        replace V := V.under bC
        replace b := b.trans (bC.mono b.size)
        clear hC
        refine hK.out _ _ b (fun hHeld => ?_)
        clear hK K
        try simp only [Act.put, List.setIfInBounds_toArray, List.set_cons_zero, List.set_cons_succ]
        refine wpAnyH_take (i := 8) (v := ?_) (by simp only [List.getElem?_toArray, List.getElem?_cons_succ, List.getElem?_cons_zero]; rfl) (by kernel_rfl) (by kernel_rfl) (by kernel_rfl) (by intro _ _ _ h; exact nomatch h.1) (Or.inl ⟨by rfl, ?_⟩) hHeld ?_
        rotate_left 1
        · intro wq hSw
          try dsimp only at hSw
          go_simp
          try (with_reducible rfl)
        try simp only [Act.put, List.setIfInBounds_toArray, List.set_cons_zero, List.set_cons_succ]
        refine wpAnyH_take (i := 9) (v := ?_) (by simp only [List.getElem?_toArray, List.getElem?_cons_succ, List.getElem?_cons_zero]; rfl) (by kernel_rfl) (by kernel_rfl) (by kernel_rfl) (by intro _ _ _ h; exact nomatch h.1) (Or.inl ⟨by rfl, ?_⟩) hHeld ?_
        rotate_left 1
        · intro wq hSw
          try dsimp only at hSw
          go_simp
          try (with_reducible rfl)
        try simp only [Act.put, List.setIfInBounds_toArray, List.set_cons_zero, List.set_cons_succ]
        refine wpAnyH_take (i := 10) (v := ?_) (by simp only [List.getElem?_toArray, List.getElem?_cons_succ, List.getElem?_cons_zero]; rfl) (by kernel_rfl) (by kernel_rfl) (by kernel_rfl) (by intro _ _ _ h; exact nomatch h.1) (Or.inl ⟨by rfl, ?_⟩) hHeld ?_
        rotate_left 1
        · intro wq hSw
          try dsimp only at hSw
          go_simp
          try (with_reducible rfl)
        try simp only [Act.put, List.setIfInBounds_toArray, List.set_cons_zero, List.set_cons_succ]
        refine wpAnyH_ready (rs := [12]) (by kernel_rfl) (by simp) ?_
        refine AllReadyH.cons (by simp only [List.getElem?_toArray, List.getElem?_cons_succ, List.getElem?_cons_zero]; rfl) (fun K hK => ?_) AllReadyH.nil
        obtain ⟨z0, z1, z2, z3, i0', i1', i2', i3'⟩ := V.four
        go_simp
        skip
        have V2 := ((((V.set 0 (.int .i64 st3)).set 1 (.int .i64 rs)).set 2 (.slice A6 m3 c6)).set 3 (.int .i64 la))
        simp only [List.setIfInBounds_toArray, List.set_cons_zero, List.set_cons_succ] at V2
        have N2 := (own_far (own_far (own_far (own_far N (a := ⟨kv, 0, none⟩) hneA (.int .i64 st3)) (a := ⟨kv, 1, none⟩) hneA (.int .i64 rs)) (a := ⟨kv, 2, none⟩) hneA (.slice A6 m3 c6)) (a := ⟨kv, 3, none⟩) hneA (.int .i64 la))
        have b2 := ((((b.setCell (p := ⟨kv, 0, none⟩) hcv (.int .i64 st3)).setCell (p := ⟨kv, 1, none⟩) hcv (.int .i64 rs)).setCell (p := ⟨kv, 2, none⟩) hcv (.slice A6 m3 c6)).setCell (p := ⟨kv, 3, none⟩) hcv (.int .i64 la))
        clear z0 z1 z2 z3 i0' i1' i2' i3'
        clear V N b
        generalize ((((w_7_5.setCell ⟨kv, 0, none⟩ (.int .i64 st3)).setCell ⟨kv, 1, none⟩ (.int .i64 rs)).setCell ⟨kv, 2, none⟩ (.slice A6 m3 c6)).setCell ⟨kv, 3, none⟩ (.int .i64 la)) = w_12_6 at *
        have V := V2
        have N := N2
        have b := b2
        clear V2 N2 b2
        refine hK.out _ _ b (fun hHeld => ?_)
        clear hK K
        try simp only [Act.put, List.setIfInBounds_toArray, List.set_cons_zero, List.set_cons_succ]
        refine wpAnyH_take (i := 13) (v := ?_) (by simp only [List.getElem?_toArray, List.getElem?_cons_succ, List.getElem?_cons_zero]; rfl) (by kernel_rfl) (by kernel_rfl) (by kernel_rfl) (by intro _ _ _ h; exact nomatch h.1) (Or.inl ⟨by rfl, ?_⟩) hHeld ?_
        rotate_left 1
        · intro wq hSw
          try dsimp only at hSw
          go_simp
          try (with_reducible rfl)
        try simp only [Act.put, List.setIfInBounds_toArray, List.set_cons_zero, List.set_cons_succ]
        refine wpAnyH_done (by kernel_rfl) ?_ _
        refine ⟨rfl, kv, A6, c6, u68, u70, u72, ?_, V, Sl.of_own N, b⟩
        with_reducible rfl
    · skip
      obtain ⟨kv, hkv⟩ : ∃ k, wd.heap.size = k := ⟨_, rfl⟩
      go_simp
      try simp only [hkv]
      have V := Blk.new wd #[.int .i64 0, .int .i64 0, .slice none 0 0, .int .i64 0] 25
      rw [hkv] at V
      have hcv : W3.heap.size ≤ kv := by rw [← hkv]; exact b.size
      skip
      replace b := b.alloc b.size (.cells #[.int .i64 0, .int .i64 0, .slice none 0 0, .int .i64 0] 25)
      generalize wd.alloc (.cells #[.int .i64 0, .int .i64 0, .slice none 0 0, .int .i64 0] 25) = w_11_1 at *
      refine hK.out _ _ b (fun hHeld => ?_)
      clear hK K
      try simp only [Act.put, List.setIfInBounds_toArray, List.set_cons_zero, List.set_cons_succ]
      refine wpAnyH_ready (rs := [2]) (by kernel_rfl) (by simp) ?_
      refine AllReadyH.cons (by simp only [List.getElem?_toArray, List.getElem?_cons_succ, List.getElem?_cons_zero]; rfl) (fun K hK => ?_) AllReadyH.nil
      go_simp
      have O := built_own w_11_1 #[] 5 [] 0 rfl rfl (by decide) b.size
      have hneU := slice_ne 0 V.lt
      replace V := V.alloc (.cells #[] 5)
      replace b := b.alloc b.size (.cells #[] 5)
      generalize hu68 : Value.slice (some ⟨w_11_1.heap.size, 0, none⟩) 0 0 = u68 at *
      generalize w_11_1.alloc (.cells #[] 5) = w_2_2 at *
      refine hK.out _ _ b (fun hHeld => ?_)
      clear hK K
      try simp only [Act.put, List.setIfInBounds_toArray, List.set_cons_zero, List.set_cons_succ]
      refine wpAnyH_ready (rs := [4]) (by kernel_rfl) (by simp) ?_
      refine AllReadyH.cons (by simp only [List.getElem?_toArray, List.getElem?_cons_succ, List.getElem?_cons_zero]; rfl) (fun K hK => ?_) AllReadyH.nil
      obtain ⟨Ar, cr, w_4_3, hr, hO⟩ := run_app (P := Try.prog) (Own.start O b.size) 23 23 i0 (.int .u8 0) 1 Try.underlying23 hi hz0 hz1 hz2 rfl _ _ _ _ (s2.below b) (oneCell8 _) (by omega) (by omega)
      refine (if_pos (by rfl)).mpr (wp_app (Operand.tmp 68) (Operand.tmp 69) 23 rfl rfl rfl hr ?_)
      try simp only [Act.put, List.setIfInBounds_toArray, List.set_cons_zero, List.set_cons_succ]
      have hneU2 := own_ne_step hO hneU V.lt
      replace V := V.own hO hneU
      replace hneU := hneU2
      clear hneU2
      replace b := own_below O hO b
      replace O := hO.own
      generalize hu70 : Value.slice Ar (0 + n2) cr = u70 at *
      clear hr hO
      refine hK.out _ _ b (fun hHeld => ?_)
      clear hK K
      try simp only [Act.put, List.setIfInBounds_toArray, List.set_cons_zero, List.set_cons_succ]
      refine wpAnyH_ready (rs := [6]) (by kernel_rfl) (by simp) ?_
      refine AllReadyH.cons (by simp only [List.getElem?_toArray, List.getElem?_cons_succ, List.getElem?_cons_zero]; rfl) (fun K hK => ?_) AllReadyH.nil
      obtain ⟨Ar, cr, w_6_4, hr, hO⟩ := run_app (P := Try.prog) (Own.start O b.size) 23 23 i0 (.int .u8 0) 1 Try.underlying23 hi hz0 hz1 hz2 rfl _ _ _ _ (s3.below b) (oneCell8 _) (by omega) (by omega)
      refine (if_pos (by rfl)).mpr (wp_app (Operand.tmp 70) (Operand.tmp 71) 23 rfl rfl rfl hr ?_)
      try simp only [Act.put, List.setIfInBounds_toArray, List.set_cons_zero, List.set_cons_succ]
      have hneU2 := own_ne_step hO hneU V.lt
      replace V := V.own hO hneU
      replace hneU := hneU2
      clear hneU2
      replace b := own_below O hO b
      replace O := hO.own
      rw [List.nil_append, ← List.map_append] at O
      generalize hu72 : Value.slice Ar (0 + n2 + n3) cr = u72 at *
      clear hr hO
      refine hK.out _ _ b (fun hHeld => ?_)
      clear hK K
      try simp only [Act.put, List.setIfInBounds_toArray, List.set_cons_zero, List.set_cons_succ]
      refine wpAnyH_ready (rs := [7]) (by kernel_rfl) (by simp) ?_
      refine AllReadyH.cons (by simp only [List.getElem?_toArray, List.getElem?_cons_succ, List.getElem?_cons_zero]; rfl) (fun K hK => ?_) AllReadyH.nil
      have hSl := sl_of_eq hu72 O
      have hC := zAppend_at st rs la size _ _ _ (l2 ++ l3) A n c l st3 er3 l6 m3 w_6_4 (s0.below b) hSl (by omega) (by simpa using hst3.out) (by simpa using hl6.out) (by simpa using her3.out) hm3.out
      rw [hu72] at hC
      go_simp
      refine hC.mono ?_
      rintro e w_7_5 ⟨A6, c6, rfl, N, bC⟩
      go_wp2_with fail
      have hneA := nw_ne N V.lt
      replace V := V.under bC
      replace b := b.trans (bC.mono b.size)
      clear hC
      refine hK.out _ _ b (fun hHeld => ?_)
      clear hK K
      try simp only [Act.put, List.setIfInBounds_toArray, List.set_cons_zero, List.set_cons_succ]
      refine wpAnyH_take (i := 8) (v := ?_) (by simp only [List.getElem?_toArray, List.getElem?_cons_succ, List.getElem?_cons_zero]; rfl) (by kernel_rfl) (by kernel_rfl) (by kernel_rfl) (by intro _ _ _ h; exact nomatch h.1) (Or.inl ⟨by rfl, ?_⟩) hHeld ?_
      rotate_left 1
      · intro wq hSw
        try dsimp only at hSw
        go_simp
        try (with_reducible rfl)
      try simp only [Act.put, List.setIfInBounds_toArray, List.set_cons_zero, List.set_cons_succ]
      refine wpAnyH_take (i := 9) (v := ?_) (by simp only [List.getElem?_toArray, List.getElem?_cons_succ, List.getElem?_cons_zero]; rfl) (by kernel_rfl) (by kernel_rfl) (by kernel_rfl) (by intro _ _ _ h; exact nomatch h.1) (Or.inl ⟨by rfl, ?_⟩) hHeld ?_
      rotate_left 1
      · intro wq hSw
        try dsimp only at hSw
        go_simp
        try (with_reducible rfl)
      try simp only [Act.put, List.setIfInBounds_toArray, List.set_cons_zero, List.set_cons_succ]
      refine wpAnyH_take (i := 10) (v := ?_) (by simp only [List.getElem?_toArray, List.getElem?_cons_succ, List.getElem?_cons_zero]; rfl) (by kernel_rfl) (by kernel_rfl) (by kernel_rfl) (by intro _ _ _ h; exact nomatch h.1) (Or.inl ⟨by rfl, ?_⟩) hHeld ?_
      rotate_left 1
      · intro wq hSw
        try dsimp only at hSw
        go_simp
        try (with_reducible rfl)
      try simp only [Act.put, List.setIfInBounds_toArray, List.set_cons_zero, List.set_cons_succ]
      refine wpAnyH_ready (rs := [12]) (by kernel_rfl) (by simp) ?_
      refine AllReadyH.cons (by simp only [List.getElem?_toArray, List.getElem?_cons_succ, List.getElem?_cons_zero]; rfl) (fun K hK => ?_) AllReadyH.nil
      obtain ⟨z0, z1, z2, z3, i0', i1', i2', i3'⟩ := V.four
      go_simp
      skip
      have V2 := ((((V.set 0 (.int .i64 st3)).set 1 (.int .i64 rs)).set 2 (.slice A6 m3 c6)).set 3 (.int .i64 la))
      simp only [List.setIfInBounds_toArray, List.set_cons_zero, List.set_cons_succ] at V2
      have N2 := (own_far (own_far (own_far (own_far N (a := ⟨kv, 0, none⟩) hneA (.int .i64 st3)) (a := ⟨kv, 1, none⟩) hneA (.int .i64 rs)) (a := ⟨kv, 2, none⟩) hneA (.slice A6 m3 c6)) (a := ⟨kv, 3, none⟩) hneA (.int .i64 la))
      have b2 := ((((b.setCell (p := ⟨kv, 0, none⟩) hcv (.int .i64 st3)).setCell (p := ⟨kv, 1, none⟩) hcv (.int .i64 rs)).setCell (p := ⟨kv, 2, none⟩) hcv (.slice A6 m3 c6)).setCell (p := ⟨kv, 3, none⟩) hcv (.int .i64 la))
      clear z0 z1 z2 z3 i0' i1' i2' i3'
      clear V N b
      generalize ((((w_7_5.setCell ⟨kv, 0, none⟩ (.int .i64 st3)).setCell ⟨kv, 1, none⟩ (.int .i64 rs)).setCell ⟨kv, 2, none⟩ (.slice A6 m3 c6)).setCell ⟨kv, 3, none⟩ (.int .i64 la)) = w_12_6 at *
      have V := V2
      have N := N2
      have b := b2
      clear V2 N2 b2
      refine hK.out _ _ b (fun hHeld => ?_)
      clear hK K
      try simp only [Act.put, List.setIfInBounds_toArray, List.set_cons_zero, List.set_cons_succ]
      refine wpAnyH_take (i := 13) (v := ?_) (by simp only [List.getElem?_toArray, List.getElem?_cons_succ, List.getElem?_cons_zero]; rfl) (by kernel_rfl) (by kernel_rfl) (by kernel_rfl) (by intro _ _ _ h; exact nomatch h.1) (Or.inl ⟨by rfl, ?_⟩) hHeld ?_
      rotate_left 1
      · intro wq hSw
        try dsimp only at hSw
        go_simp
        try (with_reducible rfl)
      try simp only [Act.put, List.setIfInBounds_toArray, List.set_cons_zero, List.set_cons_succ]
      refine wpAnyH_done (by kernel_rfl) ?_ _
      refine ⟨rfl, kv, A6, c6, u68, u70, u72, ?_, V, Sl.of_own N, b⟩
      with_reducible rfl
  rintro a w6 ⟨kv, A6, c6, u68, u70, u72, rfl, Bw, s6, b6⟩
  replace s0 := s0.below b6
  replace s2 := s2.below b6
  replace s3 := s3.below b6
  replace Bz := Bz.under b6
  replace s4 := s4.below b6
  replace Bx := Bx.under b6
  replace s5 := s5.below b6
  replace By := By.under b6
  replace bb := bb.trans (b6.mono bb.size)
  try dsimp only
  obtain ⟨Bzq0, Bzq1, Bzq2, Bzq3, Bzr0, Bzr1, Bzr2, Bzr3⟩ := Bz.four
  have Bzl := Bz.lt
  go_wp2_with fail
  clear Bzq0 Bzq1 Bzq2 Bzq3 Bzr0 Bzr1 Bzr2 Bzr3
  cases hR : resB st rs
  · have hR' : Hid (resB st rs = false) := hR
    clear hR
    have hC := zReset_at st rs la A n c l st rs la 30 l n w6 s0 (by omega) (by simp [resSt, hR'.out]) (by simp [resRs, hR'.out]) (by simp [resDa, hR'.out]) (by simp [resLa, hR'.out]) (by simp [resEr, hR'.out]) hl0.out
    refine hC.mono ?_
    clear hC
    rintro e w7 ⟨A7, c7, rfl, N7, b7⟩
    replace s0 := s0.below b7
    replace s2 := s2.below b7
    replace s3 := s3.below b7
    replace Bz := Bz.under b7
    replace s4 := s4.below b7
    replace Bx := Bx.under b7
    replace s5 := s5.below b7
    replace By := By.under b7
    replace Bw := Bw.under b7
    replace s6 := s6.below b7
    replace bb := bb.trans (b7.mono bb.size)
    have s7 := N7.sl
    replace s0 := s0.alloc (.cells #[.int .i64 st, .int .i64 rs, .slice A7 n c7, .int .i64 la] 25)
    replace s2 := s2.alloc (.cells #[.int .i64 st, .int .i64 rs, .slice A7 n c7, .int .i64 la] 25)
    replace s3 := s3.alloc (.cells #[.int .i64 st, .int .i64 rs, .slice A7 n c7, .int .i64 la] 25)
    replace Bz := Bz.alloc (.cells #[.int .i64 st, .int .i64 rs, .slice A7 n c7, .int .i64 la] 25)
    replace s4 := s4.alloc (.cells #[.int .i64 st, .int .i64 rs, .slice A7 n c7, .int .i64 la] 25)
    replace Bx := Bx.alloc (.cells #[.int .i64 st, .int .i64 rs, .slice A7 n c7, .int .i64 la] 25)
    replace s5 := s5.alloc (.cells #[.int .i64 st, .int .i64 rs, .slice A7 n c7, .int .i64 la] 25)
    replace By := By.alloc (.cells #[.int .i64 st, .int .i64 rs, .slice A7 n c7, .int .i64 la] 25)
    replace Bw := Bw.alloc (.cells #[.int .i64 st, .int .i64 rs, .slice A7 n c7, .int .i64 la] 25)
    replace s6 := s6.alloc (.cells #[.int .i64 st, .int .i64 rs, .slice A7 n c7, .int .i64 la] 25)
    replace s7 := s7.alloc (.cells #[.int .i64 st, .int .i64 rs, .slice A7 n c7, .int .i64 la] 25)
    replace bb := bb.alloc bb.size (.cells #[.int .i64 st, .int .i64 rs, .slice A7 n c7, .int .i64 la] 25)
    have Br := Blk.new w7 #[.int .i64 st, .int .i64 rs, .slice A7 n c7, .int .i64 la] 25
    by_cases hz : er1 = 0 ∧ er2 = 0
    · obtain ⟨hz1, hz2'⟩ := hz
      have f1 := her1.out
      rw [hz1] at f1
      obtain ⟨g1, g2, g3⟩ := chk_app hc (by omega) f1
      have k1 : st1 = fullF ((n : Int) + n2) size := by rw [← hst1.out, appSt, if_pos f1]
      have k2 : l1 = l ++ l2 := by rw [← hl1.out, appDa, if_pos f1]
      have k3 : m1 = n + n2 := by rw [← hm1.out, k2, List.length_append, hl0.out, hl2.out]
      have f2 := her2.out
      rw [hz2', k1, k3] at f2
      have f2' : appErrF (fullF ((n : Int) + n2) size) rs ((n : Int) + n2) la size n3 = 0 := by simpa using f2
      have f3 := app_two hc (by omega) (by omega) f1 f2'
      have k4 : er3 = 0 := by rw [← her3.out]; simpa using f3
      have k5 : l5 = l ++ l2 ++ l3 := by rw [← hl5.out, appDa, k1, k3, if_pos f2, k2]
      have k6 : l6 = l5 := by rw [k5, ← hl6.out, appDa, if_pos (by simpa using f3), List.append_assoc]
      have k7 : st2 = fullF ((n : Int) + n2 + n3) size := by rw [← hst2.out, appSt, k1, k3, if_pos f2]; simp
      have k8 : st3 = st2 := by rw [k7, ← hst3.out, appSt, if_pos (by simpa using f3)]; simp [Int.add_assoc]
      have k9 : m2 = n + n2 + n3 := by rw [← hm2.out, k5, List.length_append, List.length_append, hl0.out, hl2.out, hl3.out]
      clear f1 f2 f2' f3 g1 g2 g3 k1 k2 k5 k7
      subst hz1 hz2' k4 k6 k8 k9
      have q5 := str_of s5
      have q6 := str_of s6
      obtain ⟨y0, y1, y2, y3, _⟩ := By.four
      obtain ⟨v0, v1, v2, v3, _⟩ := Bw.four
      obtain ⟨z0, z1, z2, z3, _⟩ := Bz.four
      have l1' := By.lt
      have l2' := Bw.lt
      have l3' := Bz.lt
      go_wp2
      go_ret
      exact ⟨rfl, bb⟩
    · have k4 : er3 = 30 := by
        rw [← her3.out]
        have hx := app_not (m := (n2 : Int)) (k := (n3 : Int)) hc (by omega) (by omega) (fun hh => hz (by
          have k1 : st1 = fullF ((n : Int) + n2) size := by rw [← hst1.out, appSt, if_pos hh.1]
          have k2 : l1 = l ++ l2 := by rw [← hl1.out, appDa, if_pos hh.1]
          have k3 : m1 = n + n2 := by rw [← hm1.out, k2, List.length_append, hl0.out, hl2.out]
          refine ⟨her1.out.symm.trans hh.1, her2.out.symm.trans ?_⟩
          rw [k1, k3]
          simpa using hh.2))
        simpa using hx
      subst k4
      obtain ⟨z0, z1, z2, z3, _⟩ := Bz.four
      obtain ⟨r0, r1, r2, r3, _⟩ := Br.four
      have l3' := Bz.lt
      have l4' := Br.lt
      by_cases h2' : er2 = 0
      · have h1' : ¬ er1 = 0 := fun e => hz ⟨e, h2'⟩
        have h1b : (er1 == 0) = false := by simpa using h1'
        subst h2'
        go_wp2
        go_ret
        exact ⟨rfl, bb⟩
      · have h2b : (er2 == 0) = false := by simpa using h2'
        go_wp2
        go_ret
        exact ⟨rfl, bb⟩
  · have hR' : Hid (resB st rs = true) := hR
    clear hR
    have hC := zReset_at st rs la A n c l 0 (rs + 1) 0 0 [] 0 w6 s0 (by omega) (by simp [resSt, hR'.out]) (by simp [resRs, hR'.out]) (by simp [resDa, hR'.out]) (by simp [resLa, hR'.out]) (by simp [resEr, hR'.out]) rfl
    refine hC.mono ?_
    clear hC
    rintro e w7 ⟨A7, c7, rfl, N7, b7⟩
    replace s0 := s0.below b7
    replace s2 := s2.below b7
    replace s3 := s3.below b7
    replace Bz := Bz.under b7
    replace s4 := s4.below b7
    replace Bx := Bx.under b7
    replace s5 := s5.below b7
    replace By := By.under b7
    replace Bw := Bw.under b7
    replace s6 := s6.below b7
    replace bb := bb.trans (b7.mono bb.size)
    have s7 := N7.sl
    replace s0 := s0.alloc (.cells #[.int .i64 0, .int .i64 (rs + 1), .slice A7 0 c7, .int .i64 0] 25)
    replace s2 := s2.alloc (.cells #[.int .i64 0, .int .i64 (rs + 1), .slice A7 0 c7, .int .i64 0] 25)
    replace s3 := s3.alloc (.cells #[.int .i64 0, .int .i64 (rs + 1), .slice A7 0 c7, .int .i64 0] 25)
    replace Bz := Bz.alloc (.cells #[.int .i64 0, .int .i64 (rs + 1), .slice A7 0 c7, .int .i64 0] 25)
    replace s4 := s4.alloc (.cells #[.int .i64 0, .int .i64 (rs + 1), .slice A7 0 c7, .int .i64 0] 25)
    replace Bx := Bx.alloc (.cells #[.int .i64 0, .int .i64 (rs + 1), .slice A7 0 c7, .int .i64 0] 25)
    replace s5 := s5.alloc (.cells #[.int .i64 0, .int .i64 (rs + 1), .slice A7 0 c7, .int .i64 0] 25)
    replace By := By.alloc (.cells #[.int .i64 0, .int .i64 (rs + 1), .slice A7 0 c7, .int .i64 0] 25)
    replace Bw := Bw.alloc (.cells #[.int .i64 0, .int .i64 (rs + 1), .slice A7 0 c7, .int .i64 0] 25)
    replace s6 := s6.alloc (.cells #[.int .i64 0, .int .i64 (rs + 1), .slice A7 0 c7, .int .i64 0] 25)
    replace s7 := s7.alloc (.cells #[.int .i64 0, .int .i64 (rs + 1), .slice A7 0 c7, .int .i64 0] 25)
    replace bb := bb.alloc bb.size (.cells #[.int .i64 0, .int .i64 (rs + 1), .slice A7 0 c7, .int .i64 0] 25)
    have Br := Blk.new w7 #[.int .i64 0, .int .i64 (rs + 1), .slice A7 0 c7, .int .i64 0] 25
    by_cases hz : er1 = 0 ∧ er2 = 0
    · obtain ⟨hz1, hz2'⟩ := hz
      have f1 := her1.out
      rw [hz1] at f1
      obtain ⟨g1, g2, g3⟩ := chk_app hc (by omega) f1
      have k1 : st1 = fullF ((n : Int) + n2) size := by rw [← hst1.out, appSt, if_pos f1]
      have k2 : l1 = l ++ l2 := by rw [← hl1.out, appDa, if_pos f1]
      have k3 : m1 = n + n2 := by rw [← hm1.out, k2, List.length_append, hl0.out, hl2.out]
      have f2 := her2.out
      rw [hz2', k1, k3] at f2
      have f2' : appErrF (fullF ((n : Int) + n2) size) rs ((n : Int) + n2) la size n3 = 0 := by simpa using f2
      have f3 := app_two hc (by omega) (by omega) f1 f2'
      have k4 : er3 = 0 := by rw [← her3.out]; simpa using f3
      have k5 : l5 = l ++ l2 ++ l3 := by rw [← hl5.out, appDa, k1, k3, if_pos f2, k2]
      have k6 : l6 = l5 := by rw [k5, ← hl6.out, appDa, if_pos (by simpa using f3), List.append_assoc]
      have k7 : st2 = fullF ((n : Int) + n2 + n3) size := by rw [← hst2.out, appSt, k1, k3, if_pos f2]; simp
      have k8 : st3 = st2 := by rw [k7, ← hst3.out, appSt, if_pos (by simpa using f3)]; simp [Int.add_assoc]
      have k9 : m2 = n + n2 + n3 := by rw [← hm2.out, k5, List.length_append, List.length_append, hl0.out, hl2.out, hl3.out]
      clear f1 f2 f2' f3 g1 g2 g3 k1 k2 k5 k7
      subst hz1 hz2' k4 k6 k8 k9
      have q5 := str_of s5
      have q6 := str_of s6
      obtain ⟨y0, y1, y2, y3, _⟩ := By.four
      obtain ⟨v0, v1, v2, v3, _⟩ := Bw.four
      obtain ⟨z0, z1, z2, z3, _⟩ := Bz.four
      have l1' := By.lt
      have l2' := Bw.lt
      have l3' := Bz.lt
      go_wp2
      go_ret
      exact ⟨rfl, bb⟩
    · have k4 : er3 = 30 := by
        rw [← her3.out]
        have hx := app_not (m := (n2 : Int)) (k := (n3 : Int)) hc (by omega) (by omega) (fun hh => hz (by
          have k1 : st1 = fullF ((n : Int) + n2) size := by rw [← hst1.out, appSt, if_pos hh.1]
          have k2 : l1 = l ++ l2 := by rw [← hl1.out, appDa, if_pos hh.1]
          have k3 : m1 = n + n2 := by rw [← hm1.out, k2, List.length_append, hl0.out, hl2.out]
          refine ⟨her1.out.symm.trans hh.1, her2.out.symm.trans ?_⟩
          rw [k1, k3]
          simpa using hh.2))
        simpa using hx
      subst k4
      obtain ⟨z0, z1, z2, z3, _⟩ := Bz.four
      obtain ⟨r0, r1, r2, r3, _⟩ := Br.four
      have l3' := Bz.lt
      have l4' := Br.lt
      have hrs : 0 ≤ rs ∧ rs < 1073741824 := by have hx := hR'.out; simp [resB] at hx; omega
      have hwr : wrap64 (rs + 1) = rs + 1 := wrap64_small (by omega) (by omega)
      have hb2 := chk_all hc
      have hroom : Hid (roomF 0 (rs + 1) ((0 : Nat) : Int) 0 size = size) := by
        show roomF 0 (rs + 1) ((0 : Nat) : Int) 0 size = size
        rw [room_val (by simp only [chkF, decide_eq_true_eq]; omega)]
        simp
      by_cases h2' : er2 = 0
      · have h1' : ¬ er1 = 0 := fun e => hz ⟨e, h2'⟩
        have h1b : (er1 == 0) = false := by simpa using h1'
        subst h2'
        go_wp2_with fail
        refine (zRoom_at 0 (rs + 1) 0 size A7 0 c7 size _ hroom.out).mono ?_
        rintro e w8 ⟨rfl, b8⟩
        obtain ⟨r0', r1', r2', r3', _⟩ := (Br.under b8).four
        go_wp2
        go_ret
        exact ⟨rfl, bb.trans (b8.mono bb.size)⟩
      · have h2b : (er2 == 0) = false := by simpa using h2'
        go_wp2_with fail
        refine (zRoom_at 0 (rs + 1) 0 size A7 0 c7 size _ hroom.out).mono ?_
        rintro e w8 ⟨rfl, b8⟩
        obtain ⟨r0', r1', r2', r3', _⟩ := (Br.under b8).four
        go_wp2
        go_ret
        exact ⟨rfl, bb.trans (b8.mono bb.size)⟩

theorem ZoneAppends_walk (a0_0 : Int) (a0_1 : Int) (a0_2 : Option Addr) (len0_2 cap0_2 : Nat) (z0_2 : List Int) (a0_3 : Int) (a1 : Int) (a2 : Option Addr) (len2 cap2 : Nat) (z2 : List Int) (a3 : Option Addr) (len3 cap3 : Nat) (z3 : List Int) (w : World) (w0_0 : (Lit.int .i64 a0_0).wf = true) (w0_1 : (Lit.int .i64 a0_1).wf = true) (w0_2 : IsRow .u8 w a0_2 len0_2 cap0_2 z0_2) (w0_3 : (Lit.int .i64 a0_3).wf = true) (w1 : (Lit.int .i64 a1).wf = true) (w2 : IsRow .u8 w a2 len2 cap2 z2) (w3 : IsRow .u8 w a3 len3 cap3 z3) :
    Calls Try.prog 9 #[.agg #[.int .i64 a0_0, .int .i64 a0_1, .slice a0_2 len0_2 cap0_2, .int .i64 a0_3], .int .i64 a1, .slice a2 len2 cap2, .slice a3 len3 cap3] w (AwakePost w) := by
  obtain ⟨l0, s0⟩ := w0_2.bytes
  obtain ⟨l2, s2⟩ := w2.bytes
  obtain ⟨l3, s3⟩ := w3.bytes
  exact ZoneAppends_core a0_0 a0_1 a0_3 a1 a0_2 len0_2 cap0_2 l0 a2 len2 cap2 l2 a3 len3 cap3 l3 w s0 s2 s3
end Go.Proofs.Ytepknniflkmjnaa
