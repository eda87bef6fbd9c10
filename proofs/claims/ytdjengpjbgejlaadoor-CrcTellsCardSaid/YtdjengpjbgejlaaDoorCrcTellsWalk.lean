/-
  The document's Seal and Open; the walk of CrcTells.
-/
import Derived.Test.YtdjengpjbgejlaaDoorCrcRefJoin
import Derived.Test.YtdjengpjbgejlaaDoorDrawn
namespace Go.Proofs.YtdjengpjbgejlaaDoor
open Go.RowKit Go.Wag
set_option linter.unusedVariables false

theorem refSum_any (A : Option Addr) (n c : Nat) (l : List UInt8) (w : World) (h : Sl w A n c (l.map v8)) :
    Calls Tryd.prog 13 #[.int .u32 0, .slice A n c] w fun e w' => e = .returned (.int .u32 ((moreF 0#32 l).toNat : Int)) ∧ w = w' := refMore_any 0#32 A n c l w h

set_option maxHeartbeats 400000 in
theorem refSeal_any (A : Option Addr) (n c : Nat) (l : List UInt8) (w : World) (h : Sl w A n c (l.map v8)) (hn : n ≤ 10000000000000) :
    Calls Tryd.prog 18 #[.slice A n c] w (BytesNew w (sealF l)) := by
  obtain ⟨x, hx⟩ : ∃ x, Aside (x = moreF 0#32 l) := ⟨_, rfl⟩
  have hc := conv64 x
  go_enter Tryd.func18, Tryd.ntmps18
  go_wp2_with fail
  refine (refSum_any A n c l w h).mono ?_
  rintro e w1 ⟨rfl, rfl⟩
  rw [← hx.out]
  go_wp2_with fail
  refine (BytesErr.ok (refPut_any A n c l (x.toNat : Int) 4 w h hn (by omega) (by have := w32i x; omega)) (seal_put l x hx.out)).mono ?_
  rintro e w2 ⟨A2, n2, c2, rfl, s2, f2, b2⟩
  go_wp2
  go_ret
  exact ⟨A2, n2, c2, rfl, s2, f2, b2⟩

theorem openF_eq {l : List UInt8} (h4 : 4 ≤ l.length) : openF l = if sealF (l.take (l.length - 4)) = l then some (l.take (l.length - 4)) else none := by
  unfold openF
  by_cases h : sealF (l.take (l.length - 4)) = l
  · rw [if_pos ⟨h4, h⟩, if_pos h]
  · rw [if_neg (fun e => h e.2), if_neg h]

set_option maxHeartbeats 400000 in
theorem refOpen_any (A : Option Addr) (n c : Nat) (l : List UInt8) (w : World) (h : Sl w A n c (l.map v8)) (hn : n ≤ 10000000000000) :
    Calls Tryd.prog 11 #[.slice A n c] w (BytesErr w (openF l) 20) := by
  have HN : Hid (l.length = n) := h.len8
  have hcap := h.cap
  have hbig := h.big
  obtain ⟨i0, hi, hz0, hz1, hz2⟩ := info_parts i5
  by_cases h4 : (n : Int) < 4
  · rw [open_short (by rw [HN.out]; omega)]
    go_enter Tryd.func11, Tryd.ntmps11
    go_wp2
    go_ret2
    exact ⟨none, 0, 0, rfl, Sl.nil _, Nw.nil _ _ _, Below.refl _ _⟩
  · obtain ⟨m, rfl⟩ : ∃ m, n = m + 4 := ⟨n - 4, by omega⟩
    have hl : Hid (l.length - 4 = m) := by show l.length - 4 = m; rw [HN.out]; omega
    have HU := h.upto (m := m) (by omega)
    rw [← List.map_take] at HU
    rw [openF_eq (by rw [HN.out]; omega), hl.out]
    by_cases hs : sealF (l.take m) = l
    · rw [if_pos hs]
      go_enter Tryd.func11, Tryd.ntmps11
      go_wp2_with fail
      refine (refSeal_any A m c (l.take m) w HU (by omega)).mono ?_
      rintro e w2 ⟨A2, n2, c2, rfl, s2, f2, b2⟩
      rw [hs] at s2
      have q1 := str_of s2
      have q2 := str_of (h.below b2)
      have HC2 := (HU.below b2).alloc (.cells #[] 5)
      have HO2 := Own.empty w2 5
      clear hs
      go_wp2_with (at_builtin; refine wpList_app rfl (.tmp 19) (.tmp 24) 23 rfl rfl HO2 i0 (.int .u8 0) 1 Tryd.underlying23 hi hz0 hz1 hz2 rfl _ _ _ _ rfl HC2 (oneCell8 _) ?_ ?_ ?_)
      · omega
      · omega
      intro A3 c3 w3 hw3
      have hB := hw3.below_made
      have e3 : List.take m (List.map v8 l) = (l.take m).map v8 := (List.map_take ..).symm
      rw [e3] at hw3
      go_wp2
      go_ret2
      exact ⟨_, _, _, rfl, hw3.to_sl, hw3.fresh.mono b2.size, b2.trans (hB.mono b2.size)⟩
    · rw [if_neg hs]
      go_enter Tryd.func11, Tryd.ntmps11
      go_wp2_with fail
      refine (refSeal_any A m c (l.take m) w HU (by omega)).mono ?_
      rintro e w2 ⟨A2, n2, c2, rfl, s2, f2, b2⟩
      have q1 := str_of s2
      have q2 := str_of (h.below b2)
      have hne : (sealF (l.take m) == l) = false := by rw [beq_eq_false_iff_ne]; exact hs
      clear hs
      go_wp2
      go_ret2
      exact ⟨none, 0, 0, rfl, Sl.nil _, Nw.nil _ _ _, b2⟩

theorem refMore_num (s : W32) (sv : Int) (hs : (s.toNat : Int) = sv) (A : Option Addr) (n c : Nat) (l : List UInt8) (v : Int) (hv : ((moreF s l).toNat : Int) = v) (w : World) (h : Sl w A n c (l.map v8)) :
    Calls Tryd.prog 13 #[.int .u32 sv, .slice A n c] w fun e w' => e = .returned (.int .u32 v) ∧ w = w' := by
  subst hv hs
  exact refMore_any s A n c l w h
theorem Join_to (a b : W32) (av bv : Int) (ha : (a.toNat : Int) = av) (hb : (b.toNat : Int) = bv) (n : Int) (v : Int) (hv : ((joinF a b (min (max n 0) 1073741824).toNat).toNat : Int) = v) (w : World) :
    Calls Tryd.prog 15 #[.int .u32 av, .int .u32 bv, .int .i64 n] w fun e w' => e = .returned (.int .u32 v) ∧ w = w' := by
  subst hv ha hb
  exact Join_any a b n w
theorem refJoin_to (a b : W32) (av bv : Int) (ha : (a.toNat : Int) = av) (hb : (b.toNat : Int) = bv) (n : Int) (v : Int) (hv : ((joinF a b (min (max n 0) 1073741824).toNat).toNat : Int) = v) (w : World) :
    Calls Tryd.prog 16 #[.int .u32 av, .int .u32 bv, .int .i64 n] w fun e w' => e = .returned (.int .u32 v) ∧ Below w.heap.size w w' := by
  subst hv ha hb
  exact refJoin_any a b n w

set_option linter.unusedSimpArgs false in
set_option maxHeartbeats 4000000 in
theorem CrcTells_walk (a0 : Int) (a1 : Option Addr) (len1 cap1 : Nat) (z1 : List Int) (a2 : Int) (a3 : Int) (w : World) (hT : Tab w) (w0 : (Lit.int .u32 a0).wf = true) (w1 : IsRow .u8 w a1 len1 cap1 z1) (w2 : (Lit.int .u32 a2).wf = true) (w3 : (Lit.int .i64 a3).wf = true) :
    Calls Tryd.prog 3 #[.int .u32 a0, .slice a1 len1 cap1, .int .u32 a2, .int .i64 a3] w (AwakePost w) := by
  obtain ⟨s, rfl⟩ := wf_w32 w0
  obtain ⟨v, rfl⟩ := wf_w32 w2
  obtain ⟨l1, s1⟩ := w1.bytes
  clear w0 w1 w2 w3
  by_cases g1 : (300 : Int) < (len1 : Int)
  · go_enter Tryd.func3, Tryd.ntmps3
    go_wp2_with fail
    refine (crcAwake_any _ hT).mono ?_
    rintro e w1 ⟨rfl, b1⟩
    go_wp2
    go_ret
    exact ⟨rfl, b1⟩
  go_enter Tryd.func3, Tryd.ntmps3
  go_wp2_with fail
  refine (crcAwake_any _ hT).mono ?_
  rintro e w1 ⟨rfl, b1⟩
  replace s1 := s1.below b1
  have hT1 := hT.below b1
  go_wp2_with fail
  refine (Open_any a1 len1 cap1 l1 w1 hT1 s1 (by omega)).mono ?_
  rintro e w2 ⟨A2, n2, c2, rfl, s2, f2, b2⟩
  replace s1 := s1.below b2
  replace b1 := b1.trans (b2.mono b1.size)
  clear b2 f2 hT1
  go_wp2_with fail
  refine (refOpen_any a1 len1 cap1 l1 w2 s1 (by omega)).mono ?_
  rintro e w3 ⟨A3, n3, c3, rfl, s3, f3, b3⟩
  replace s1 := s1.below b3
  replace s2 := s2.below b3
  replace b1 := b1.trans (b3.mono b1.size)
  have hT3 := hT.below b1
  clear b3 f3
  generalize openF l1 = r at *
  obtain ⟨x, hx⟩ : ∃ x, Aside (x = moreF s l1) := ⟨_, rfl⟩
  obtain ⟨y, hy⟩ : ∃ y, Aside (y = moreF 0#32 l1) := ⟨_, rfl⟩
  obtain ⟨j, hj⟩ : ∃ j, Aside (j = joinF s v (min (max a3 0) 1073741824).toNat) := ⟨_, rfl⟩
  go_wp2_with fail
  refine wp_region_held_drew (S := fun w' => Below w3.heap.size w3 w') (by kernel_rfl) (Below.refl _ _).drew (fun hHeld => ?_)
  replace s1 := s1.drew
  replace s2 := s2.drew
  replace s3 := s3.drew
  replace hT3 : Tab w3.drew := hT3
  replace b1 := b1.drew
  generalize w3.drew = wd at *
  refine wpAnyH_stronger (S' := fun w' => Below wd.heap.size wd w') (fun w' h => Below.trans hHeld (h.mono (Below.size hHeld))) _ _ _ _ ?_
  replace hHeld : Below wd.heap.size wd wd := Below.refl _ _
  try simp only [Act.put, List.setIfInBounds_toArray, List.set_cons_zero, List.set_cons_succ]
  refine wpAnyH_take (i := 0) (v := ?_) (by simp only [List.getElem?_toArray, List.getElem?_cons_succ, List.getElem?_cons_zero]; rfl) (by kernel_rfl) (by kernel_rfl) (by kernel_rfl) (by intro _ _ _ h; exact h) (Or.inl ⟨by rfl, ?_⟩) hHeld ?_
  rotate_left 1
  · intro wq hSw
    try dsimp only at hSw
    go_simp
    try (with_reducible rfl)
  try simp only [Act.put, List.setIfInBounds_toArray, List.set_cons_zero, List.set_cons_succ]
  refine wpAnyH_take (i := 1) (v := ?_) (by simp only [List.getElem?_toArray, List.getElem?_cons_succ, List.getElem?_cons_zero]; rfl) (by kernel_rfl) (by kernel_rfl) (by kernel_rfl) (by intro _ _ _ h; exact h) (Or.inl ⟨by rfl, ?_⟩) hHeld ?_
  rotate_left 1
  · intro wq hSw
    try dsimp only at hSw
    go_simp
    try (with_reducible rfl)
  try simp only [Act.put, List.setIfInBounds_toArray, List.set_cons_zero, List.set_cons_succ]
  refine wpAnyH_take (i := 2) (v := ?_) (by simp only [List.getElem?_toArray, List.getElem?_cons_succ, List.getElem?_cons_zero]; rfl) (by kernel_rfl) (by kernel_rfl) (by kernel_rfl) (by intro _ _ _ h; exact h) (Or.inl ⟨by rfl, ?_⟩) hHeld ?_
  rotate_left 1
  · intro wq hSw
    try dsimp only at hSw
    go_simp
    try (with_reducible rfl)
  try simp only [Act.put, List.setIfInBounds_toArray, List.set_cons_zero, List.set_cons_succ]
  refine wpAnyH_take (i := 3) (v := ?_) (by simp only [List.getElem?_toArray, List.getElem?_cons_succ, List.getElem?_cons_zero]; rfl) (by kernel_rfl) (by kernel_rfl) (by kernel_rfl) (by intro _ _ _ h; exact h) (Or.inl ⟨by rfl, ?_⟩) hHeld ?_
  rotate_left 1
  · intro wq hSw
    try dsimp only at hSw
    go_simp
    try (with_reducible rfl)
  try simp only [Act.put, List.setIfInBounds_toArray, List.set_cons_zero, List.set_cons_succ]
  refine wpAnyH_take (i := 5) (v := ?_) (by simp only [List.getElem?_toArray, List.getElem?_cons_succ, List.getElem?_cons_zero]; rfl) (by kernel_rfl) (by kernel_rfl) (by kernel_rfl) (by intro _ _ _ h; exact h) (Or.inl ⟨by rfl, ?_⟩) hHeld ?_
  rotate_left 1
  · intro wq hSw
    try dsimp only at hSw
    go_simp
    try (with_reducible rfl)
  try simp only [Act.put, List.setIfInBounds_toArray, List.set_cons_zero, List.set_cons_succ]
  refine wpAnyH_take (i := 6) (v := ?_) (by simp only [List.getElem?_toArray, List.getElem?_cons_succ, List.getElem?_cons_zero]; rfl) (by kernel_rfl) (by kernel_rfl) (by kernel_rfl) (by intro _ _ _ h; exact h) (Or.inl ⟨by rfl, ?_⟩) hHeld ?_
  rotate_left 1
  · intro wq hSw
    try dsimp only at hSw
    go_simp
    try (with_reducible rfl)
  try simp only [Act.put, List.setIfInBounds_toArray, List.set_cons_zero, List.set_cons_succ]
  refine wpAnyH_ready (rs := [4]) (by kernel_rfl) (by simp) ?_
  refine AllReadyH.cons (by simp only [List.getElem?_toArray, List.getElem?_cons_succ, List.getElem?_cons_zero]; rfl) (fun K hK => ?_) AllReadyH.nil
  go_simp
  refine (named (More_num s _ rfl a1 len1 cap1 l1 (x.toNat : Int) (by rw [hx.out]) _ hT3 s1)).mono ?_
  rintro e w4 ⟨rfl, b4⟩
  replace s1 := s1.below b4
  replace s2 := s2.below b4
  replace s3 := s3.below b4
  replace hT3 := hT3.below b4
  replace b1 := b1.trans (b4.mono b1.size)
  go_wp2_with fail
  refine hK.out _ _ (b4) (fun _ => wpAnyH_stronger (S' := fun w' => Below w4.heap.size w4 w') (fun w' h => Below.trans (b4) (h.mono (b4).size)) _ _ _ _ ?_)
  clear hK K hHeld
  have hHeld : Below w4.heap.size w4 w4 := Below.refl _ _
  try simp only [Act.put, List.setIfInBounds_toArray, List.set_cons_zero, List.set_cons_succ]
  refine wpAnyH_ready (rs := [7]) (by kernel_rfl) (by simp) ?_
  refine AllReadyH.cons (by simp only [List.getElem?_toArray, List.getElem?_cons_succ, List.getElem?_cons_zero]; rfl) (fun K hK => ?_) AllReadyH.nil
  go_simp
  refine (named (refMore_num s _ rfl a1 len1 cap1 l1 (x.toNat : Int) (by rw [hx.out]) _ s1)).mono ?_
  rintro e w5 ⟨rfl, b5⟩
  replace s1 := s1.below b5
  replace s2 := s2.below b5
  replace s3 := s3.below b5
  replace hT3 := hT3.below b5
  replace b1 := b1.trans (b5.mono b1.size)
  go_wp2_with fail
  refine hK.out _ _ (b5) (fun _ => wpAnyH_stronger (S' := fun w' => Below w5.heap.size w5 w') (fun w' h => Below.trans (b5) (h.mono (b5).size)) _ _ _ _ ?_)
  clear hK K hHeld
  have hHeld : Below w5.heap.size w5 w5 := Below.refl _ _
  try simp only [Act.put, List.setIfInBounds_toArray, List.set_cons_zero, List.set_cons_succ]
  refine wpAnyH_take (i := 8) (v := ?_) (by simp only [List.getElem?_toArray, List.getElem?_cons_succ, List.getElem?_cons_zero]; rfl) (by kernel_rfl) (by kernel_rfl) (by kernel_rfl) (by intro _ _ _ h; exact h) (Or.inl ⟨by rfl, ?_⟩) hHeld ?_
  rotate_left 1
  · intro wq hSw
    try dsimp only at hSw
    go_simp
    try (with_reducible rfl)
  try simp only [Act.put, List.setIfInBounds_toArray, List.set_cons_zero, List.set_cons_succ]
  refine wpAnyH_take (i := 9) (v := ?_) (by simp only [List.getElem?_toArray, List.getElem?_cons_succ, List.getElem?_cons_zero]; rfl) (by kernel_rfl) (by kernel_rfl) (by kernel_rfl) (by intro _ _ _ h; exact h) (Or.inl ⟨by rfl, ?_⟩) hHeld ?_
  rotate_left 1
  · intro wq hSw
    try dsimp only at hSw
    go_simp
    try (with_reducible rfl)
  try simp only [Act.put, List.setIfInBounds_toArray, List.set_cons_zero, List.set_cons_succ]
  refine wpAnyH_take (i := 10) (v := ?_) (by simp only [List.getElem?_toArray, List.getElem?_cons_succ, List.getElem?_cons_zero]; rfl) (by kernel_rfl) (by kernel_rfl) (by kernel_rfl) (by intro _ _ _ h; exact h) (Or.inl ⟨by rfl, ?_⟩) hHeld ?_
  rotate_left 1
  · intro wq hSw
    try dsimp only at hSw
    go_simp
    try (with_reducible rfl)
  try simp only [Act.put, List.setIfInBounds_toArray, List.set_cons_zero, List.set_cons_succ]
  refine wpAnyH_take (i := 11) (v := ?_) (by simp only [List.getElem?_toArray, List.getElem?_cons_succ, List.getElem?_cons_zero]; rfl) (by kernel_rfl) (by kernel_rfl) (by kernel_rfl) (by intro _ _ _ h; exact h) (Or.inl ⟨by rfl, ?_⟩) hHeld ?_
  rotate_left 1
  · intro wq hSw
    try dsimp only at hSw
    go_simp
    try (with_reducible rfl)
  try simp only [Act.put, List.setIfInBounds_toArray, List.set_cons_zero, List.set_cons_succ]
  refine wpAnyH_take (i := 13) (v := ?_) (by simp only [List.getElem?_toArray, List.getElem?_cons_succ, List.getElem?_cons_zero]; rfl) (by kernel_rfl) (by kernel_rfl) (by kernel_rfl) (by intro _ _ _ h; exact h) (Or.inl ⟨by rfl, ?_⟩) hHeld ?_
  rotate_left 1
  · intro wq hSw
    try dsimp only at hSw
    go_simp
    try (with_reducible rfl)
  try simp only [Act.put, List.setIfInBounds_toArray, List.set_cons_zero, List.set_cons_succ]
  refine wpAnyH_ready (rs := [12]) (by kernel_rfl) (by simp) ?_
  refine AllReadyH.cons (by simp only [List.getElem?_toArray, List.getElem?_cons_succ, List.getElem?_cons_zero]; rfl) (fun K hK => ?_) AllReadyH.nil
  go_simp
  refine (named (Sum_num a1 len1 cap1 l1 (y.toNat : Int) (by rw [hy.out]) _ hT3 s1)).mono ?_
  rintro e w6 ⟨rfl, b6⟩
  replace s1 := s1.below b6
  replace s2 := s2.below b6
  replace s3 := s3.below b6
  replace hT3 := hT3.below b6
  replace b1 := b1.trans (b6.mono b1.size)
  go_wp2_with fail
  refine hK.out _ _ (b6) (fun _ => wpAnyH_stronger (S' := fun w' => Below w6.heap.size w6 w') (fun w' h => Below.trans (b6) (h.mono (b6).size)) _ _ _ _ ?_)
  clear hK K hHeld
  have hHeld : Below w6.heap.size w6 w6 := Below.refl _ _
  try simp only [Act.put, List.setIfInBounds_toArray, List.set_cons_zero, List.set_cons_succ]
  refine wpAnyH_ready (rs := [14]) (by kernel_rfl) (by simp) ?_
  refine AllReadyH.cons (by simp only [List.getElem?_toArray, List.getElem?_cons_succ, List.getElem?_cons_zero]; rfl) (fun K hK => ?_) AllReadyH.nil
  go_simp
  refine (named (refMore_num 0#32 0 rfl a1 len1 cap1 l1 (y.toNat : Int) (by rw [hy.out]) _ s1)).mono ?_
  rintro e w7 ⟨rfl, b7⟩
  replace s1 := s1.below b7
  replace s2 := s2.below b7
  replace s3 := s3.below b7
  replace hT3 := hT3.below b7
  replace b1 := b1.trans (b7.mono b1.size)
  go_wp2_with fail
  refine hK.out _ _ (b7) (fun _ => wpAnyH_stronger (S' := fun w' => Below w7.heap.size w7 w') (fun w' h => Below.trans (b7) (h.mono (b7).size)) _ _ _ _ ?_)
  clear hK K hHeld
  have hHeld : Below w7.heap.size w7 w7 := Below.refl _ _
  try simp only [Act.put, List.setIfInBounds_toArray, List.set_cons_zero, List.set_cons_succ]
  refine wpAnyH_take (i := 15) (v := ?_) (by simp only [List.getElem?_toArray, List.getElem?_cons_succ, List.getElem?_cons_zero]; rfl) (by kernel_rfl) (by kernel_rfl) (by kernel_rfl) (by intro _ _ _ h; exact h) (Or.inl ⟨by rfl, ?_⟩) hHeld ?_
  rotate_left 1
  · intro wq hSw
    try dsimp only at hSw
    go_simp
    try (with_reducible rfl)
  try simp only [Act.put, List.setIfInBounds_toArray, List.set_cons_zero, List.set_cons_succ]
  refine wpAnyH_take (i := 16) (v := ?_) (by simp only [List.getElem?_toArray, List.getElem?_cons_succ, List.getElem?_cons_zero]; rfl) (by kernel_rfl) (by kernel_rfl) (by kernel_rfl) (by intro _ _ _ h; exact h) (Or.inl ⟨by rfl, ?_⟩) hHeld ?_
  rotate_left 1
  · intro wq hSw
    try dsimp only at hSw
    go_simp
    try (with_reducible rfl)
  try simp only [Act.put, List.setIfInBounds_toArray, List.set_cons_zero, List.set_cons_succ]
  refine wpAnyH_take (i := 17) (v := ?_) (by simp only [List.getElem?_toArray, List.getElem?_cons_succ, List.getElem?_cons_zero]; rfl) (by kernel_rfl) (by kernel_rfl) (by kernel_rfl) (by intro _ _ _ h; exact h) (Or.inl ⟨by rfl, ?_⟩) hHeld ?_
  rotate_left 1
  · intro wq hSw
    try dsimp only at hSw
    go_simp
    try (with_reducible rfl)
  try simp only [Act.put, List.setIfInBounds_toArray, List.set_cons_zero, List.set_cons_succ]
  refine wpAnyH_take (i := 18) (v := ?_) (by simp only [List.getElem?_toArray, List.getElem?_cons_succ, List.getElem?_cons_zero]; rfl) (by kernel_rfl) (by kernel_rfl) (by kernel_rfl) (by intro _ _ _ h; exact h) (Or.inl ⟨by rfl, ?_⟩) hHeld ?_
  rotate_left 1
  · intro wq hSw
    try dsimp only at hSw
    go_simp
    try (with_reducible rfl)
  try simp only [Act.put, List.setIfInBounds_toArray, List.set_cons_zero, List.set_cons_succ]
  refine wpAnyH_take (i := 19) (v := ?_) (by simp only [List.getElem?_toArray, List.getElem?_cons_succ, List.getElem?_cons_zero]; rfl) (by kernel_rfl) (by kernel_rfl) (by kernel_rfl) (by intro _ _ _ h; exact h) (Or.inl ⟨by rfl, ?_⟩) hHeld ?_
  rotate_left 1
  · intro wq hSw
    try dsimp only at hSw
    go_simp
    try (with_reducible rfl)
  try simp only [Act.put, List.setIfInBounds_toArray, List.set_cons_zero, List.set_cons_succ]
  refine wpAnyH_take (i := 20) (v := ?_) (by simp only [List.getElem?_toArray, List.getElem?_cons_succ, List.getElem?_cons_zero]; rfl) (by kernel_rfl) (by kernel_rfl) (by kernel_rfl) (by intro _ _ _ h; exact h) (Or.inl ⟨by rfl, ?_⟩) hHeld ?_
  rotate_left 1
  · intro wq hSw
    try dsimp only at hSw
    go_simp
    try (with_reducible rfl)
  try simp only [Act.put, List.setIfInBounds_toArray, List.set_cons_zero, List.set_cons_succ]
  refine wpAnyH_take (i := 22) (v := ?_) (by simp only [List.getElem?_toArray, List.getElem?_cons_succ, List.getElem?_cons_zero]; rfl) (by kernel_rfl) (by kernel_rfl) (by kernel_rfl) (by intro _ _ _ h; exact h) (Or.inl ⟨by rfl, ?_⟩) hHeld ?_
  rotate_left 1
  · intro wq hSw
    try dsimp only at hSw
    go_simp
    try (with_reducible rfl)
  try simp only [Act.put, List.setIfInBounds_toArray, List.set_cons_zero, List.set_cons_succ]
  refine wpAnyH_take (i := 23) (v := ?_) (by simp only [List.getElem?_toArray, List.getElem?_cons_succ, List.getElem?_cons_zero]; rfl) (by kernel_rfl) (by kernel_rfl) (by kernel_rfl) (by intro _ _ _ h; exact h) (Or.inl ⟨by rfl, ?_⟩) hHeld ?_
  rotate_left 1
  · intro wq hSw
    try dsimp only at hSw
    go_simp
    try (with_reducible rfl)
  try simp only [Act.put, List.setIfInBounds_toArray, List.set_cons_zero, List.set_cons_succ]
  refine wpAnyH_take (i := 24) (v := ?_) (by simp only [List.getElem?_toArray, List.getElem?_cons_succ, List.getElem?_cons_zero]; rfl) (by kernel_rfl) (by kernel_rfl) (by kernel_rfl) (by intro _ _ _ h; exact h) (Or.inl ⟨by rfl, ?_⟩) hHeld ?_
  rotate_left 1
  · intro wq hSw
    try dsimp only at hSw
    go_simp
    try (with_reducible rfl)
  try simp only [Act.put, List.setIfInBounds_toArray, List.set_cons_zero, List.set_cons_succ]
  refine wpAnyH_ready (rs := [21]) (by kernel_rfl) (by simp) ?_
  refine AllReadyH.cons (by simp only [List.getElem?_toArray, List.getElem?_cons_succ, List.getElem?_cons_zero]; rfl) (fun K hK => ?_) AllReadyH.nil
  go_simp
  refine (named (Join_to s v _ _ rfl rfl a3 (j.toNat : Int) (by rw [hj.out]) _)).mono ?_
  rintro e w8 ⟨rfl, b8⟩
  replace s1 := s1.below b8
  replace s2 := s2.below b8
  replace s3 := s3.below b8
  replace hT3 := hT3.below b8
  replace b1 := b1.trans (b8.mono b1.size)
  go_wp2_with fail
  refine hK.out _ _ (b8) (fun _ => wpAnyH_stronger (S' := fun w' => Below w8.heap.size w8 w') (fun w' h => Below.trans (b8) (h.mono (b8).size)) _ _ _ _ ?_)
  clear hK K hHeld
  have hHeld : Below w8.heap.size w8 w8 := Below.refl _ _
  try simp only [Act.put, List.setIfInBounds_toArray, List.set_cons_zero, List.set_cons_succ]
  refine wpAnyH_ready (rs := [25]) (by kernel_rfl) (by simp) ?_
  refine AllReadyH.cons (by simp only [List.getElem?_toArray, List.getElem?_cons_succ, List.getElem?_cons_zero]; rfl) (fun K hK => ?_) AllReadyH.nil
  go_simp
  refine (refJoin_to s v _ _ rfl rfl a3 (j.toNat : Int) (by rw [hj.out]) _).mono ?_
  rintro e w9 ⟨rfl, b9⟩
  replace s1 := s1.below b9
  replace s2 := s2.below b9
  replace s3 := s3.below b9
  replace hT3 := hT3.below b9
  replace b1 := b1.trans (b9.mono b1.size)
  go_wp2_with fail
  refine hK.out _ _ (b9) (fun _ => wpAnyH_stronger (S' := fun w' => Below w9.heap.size w9 w') (fun w' h => Below.trans (b9) (h.mono (b9).size)) _ _ _ _ ?_)
  clear hK K hHeld
  have hHeld : Below w9.heap.size w9 w9 := Below.refl _ _
  try simp only [Act.put, List.setIfInBounds_toArray, List.set_cons_zero, List.set_cons_succ]
  refine wpAnyH_take (i := 26) (v := ?_) (by simp only [List.getElem?_toArray, List.getElem?_cons_succ, List.getElem?_cons_zero]; rfl) (by kernel_rfl) (by kernel_rfl) (by kernel_rfl) (by intro _ _ _ h; exact h) (Or.inl ⟨by rfl, ?_⟩) hHeld ?_
  rotate_left 1
  · intro wq hSw
    try dsimp only at hSw
    go_simp
    try (with_reducible rfl)
  try simp only [Act.put, List.setIfInBounds_toArray, List.set_cons_zero, List.set_cons_succ]
  refine wpAnyH_take (i := 27) (v := ?_) (by simp only [List.getElem?_toArray, List.getElem?_cons_succ, List.getElem?_cons_zero]; rfl) (by kernel_rfl) (by kernel_rfl) (by kernel_rfl) (by intro _ _ _ h; exact h) (Or.inl ⟨by rfl, ?_⟩) hHeld ?_
  rotate_left 1
  · intro wq hSw
    try dsimp only at hSw
    go_simp
    try (with_reducible rfl)
  try simp only [Act.put, List.setIfInBounds_toArray, List.set_cons_zero, List.set_cons_succ]
  refine wpAnyH_take (i := 28) (v := ?_) (by simp only [List.getElem?_toArray, List.getElem?_cons_succ, List.getElem?_cons_zero]; rfl) (by kernel_rfl) (by kernel_rfl) (by kernel_rfl) (by intro _ _ _ h; exact h) (Or.inl ⟨by rfl, ?_⟩) hHeld ?_
  rotate_left 1
  · intro wq hSw
    try dsimp only at hSw
    go_simp
    try (with_reducible rfl)
  try simp only [Act.put, List.setIfInBounds_toArray, List.set_cons_zero, List.set_cons_succ]
  refine wpAnyH_take (i := 29) (v := ?_) (by simp only [List.getElem?_toArray, List.getElem?_cons_succ, List.getElem?_cons_zero]; rfl) (by kernel_rfl) (by kernel_rfl) (by kernel_rfl) (by intro _ _ _ h; exact h) (Or.inl ⟨by rfl, ?_⟩) hHeld ?_
  rotate_left 1
  · intro wq hSw
    try dsimp only at hSw
    go_simp
    try (with_reducible rfl)
  try simp only [Act.put, List.setIfInBounds_toArray, List.set_cons_zero, List.set_cons_succ]
  refine wpAnyH_take (i := 32) (v := ?_) (by simp only [List.getElem?_toArray, List.getElem?_cons_succ, List.getElem?_cons_zero]; rfl) (by kernel_rfl) (by kernel_rfl) (by kernel_rfl) (by intro _ _ _ h; exact h) (Or.inl ⟨by rfl, ?_⟩) hHeld ?_
  rotate_left 1
  · intro wq hSw
    try dsimp only at hSw
    go_simp
    try (with_reducible rfl)
  try simp only [Act.put, List.setIfInBounds_toArray, List.set_cons_zero, List.set_cons_succ]
  refine wpAnyH_ready (rs := [30]) (by kernel_rfl) (by simp) ?_
  refine AllReadyH.cons (by simp only [List.getElem?_toArray, List.getElem?_cons_succ, List.getElem?_cons_zero]; rfl) (fun K hK => ?_) AllReadyH.nil
  go_simp
  refine (Seal_any a1 len1 cap1 l1 _ hT3 s1 (by omega)).mono ?_
  rintro e w10 ⟨A10, n10, c10, rfl, s10, f10, b10⟩
  replace s1 := s1.below b10
  replace s2 := s2.below b10
  replace s3 := s3.below b10
  replace hT3 := hT3.below b10
  replace b1 := b1.trans (b10.mono b1.size)
  go_wp2_with fail
  refine hK.out _ _ (b10) (fun _ => wpAnyH_stronger (S' := fun w' => Below w10.heap.size w10 w') (fun w' h => Below.trans (b10) (h.mono (b10).size)) _ _ _ _ ?_)
  clear hK K hHeld
  have hHeld : Below w10.heap.size w10 w10 := Below.refl _ _
  try simp only [Act.put, List.setIfInBounds_toArray, List.set_cons_zero, List.set_cons_succ]
  refine wpAnyH_take (i := 31) (v := ?_) (by simp only [List.getElem?_toArray, List.getElem?_cons_succ, List.getElem?_cons_zero]; rfl) (by kernel_rfl) (by kernel_rfl) (by kernel_rfl) (by intro _ _ _ h; exact h) (Or.inl ⟨by rfl, ?_⟩) hHeld ?_
  rotate_left 1
  · intro wq hSw
    try dsimp only at hSw
    have q := str_of (s10.below hSw)
    go_simp
    try (with_reducible rfl)
  try simp only [Act.put, List.setIfInBounds_toArray, List.set_cons_zero, List.set_cons_succ]
  refine wpAnyH_ready (rs := [33]) (by kernel_rfl) (by simp) ?_
  refine AllReadyH.cons (by simp only [List.getElem?_toArray, List.getElem?_cons_succ, List.getElem?_cons_zero]; rfl) (fun K hK => ?_) AllReadyH.nil
  go_simp
  refine (refSeal_any a1 len1 cap1 l1 _ s1 (by omega)).mono ?_
  rintro e w11 ⟨A11, n11, c11, rfl, s11, f11, b11⟩
  replace s1 := s1.below b11
  replace s2 := s2.below b11
  replace s3 := s3.below b11
  replace hT3 := hT3.below b11
  replace b1 := b1.trans (b11.mono b1.size)
  go_wp2_with fail
  refine hK.out _ _ (b11) (fun _ => wpAnyH_stronger (S' := fun w' => Below w11.heap.size w11 w') (fun w' h => Below.trans (b11) (h.mono (b11).size)) _ _ _ _ ?_)
  clear hK K hHeld
  have hHeld : Below w11.heap.size w11 w11 := Below.refl _ _
  try simp only [Act.put, List.setIfInBounds_toArray, List.set_cons_zero, List.set_cons_succ]
  refine wpAnyH_take (i := 34) (v := ?_) (by simp only [List.getElem?_toArray, List.getElem?_cons_succ, List.getElem?_cons_zero]; rfl) (by kernel_rfl) (by kernel_rfl) (by kernel_rfl) (by intro _ _ _ h; exact h) (Or.inl ⟨by rfl, ?_⟩) hHeld ?_
  rotate_left 1
  · intro wq hSw
    try dsimp only at hSw
    have q := str_of (s11.below hSw)
    go_simp
    try (with_reducible rfl)
  try simp only [Act.put, List.setIfInBounds_toArray, List.set_cons_zero, List.set_cons_succ]
  refine wpAnyH_take (i := 35) (v := ?_) (by simp only [List.getElem?_toArray, List.getElem?_cons_succ, List.getElem?_cons_zero]; rfl) (by kernel_rfl) (by kernel_rfl) (by kernel_rfl) (by intro _ _ _ h; exact h) (Or.inl ⟨by rfl, ?_⟩) hHeld ?_
  rotate_left 1
  · intro wq hSw
    try dsimp only at hSw
    go_simp
    try (with_reducible rfl)
  try simp only [Act.put, List.setIfInBounds_toArray, List.set_cons_zero, List.set_cons_succ]
  refine wpAnyH_take (i := 36) (v := ?_) (by simp only [List.getElem?_toArray, List.getElem?_cons_succ, List.getElem?_cons_zero]; rfl) (by kernel_rfl) (by kernel_rfl) (by kernel_rfl) (by intro _ _ _ h; exact h) (Or.inl ⟨by rfl, ?_⟩) hHeld ?_
  rotate_left 1
  · intro wq hSw
    try dsimp only at hSw
    go_simp
    try (with_reducible rfl)
  try simp only [Act.put, List.setIfInBounds_toArray, List.set_cons_zero, List.set_cons_succ]
  refine wpAnyH_take (i := 37) (v := ?_) (by simp only [List.getElem?_toArray, List.getElem?_cons_succ, List.getElem?_cons_zero]; rfl) (by kernel_rfl) (by kernel_rfl) (by kernel_rfl) (by intro _ _ _ h; exact h) (Or.inl ⟨by rfl, ?_⟩) hHeld ?_
  rotate_left 1
  · intro wq hSw
    try dsimp only at hSw
    go_simp
    try (with_reducible rfl)
  try simp only [Act.put, List.setIfInBounds_toArray, List.set_cons_zero, List.set_cons_succ]
  refine wpAnyH_take (i := 38) (v := ?_) (by simp only [List.getElem?_toArray, List.getElem?_cons_succ, List.getElem?_cons_zero]; rfl) (by kernel_rfl) (by kernel_rfl) (by kernel_rfl) (by intro _ _ _ h; exact h) (Or.inl ⟨by rfl, ?_⟩) hHeld ?_
  rotate_left 1
  · intro wq hSw
    try dsimp only at hSw
    go_simp
    try (with_reducible rfl)
  try simp only [Act.put, List.setIfInBounds_toArray, List.set_cons_zero, List.set_cons_succ]
  refine wpAnyH_take (i := 39) (v := ?_) (by simp only [List.getElem?_toArray, List.getElem?_cons_succ, List.getElem?_cons_zero]; rfl) (by kernel_rfl) (by kernel_rfl) (by kernel_rfl) (by intro _ _ _ h; exact h) (Or.inl ⟨by rfl, ?_⟩) hHeld ?_
  rotate_left 1
  · intro wq hSw
    try dsimp only at hSw
    have q := str_of (s2.below hSw)
    go_simp
    try (with_reducible rfl)
  try simp only [Act.put, List.setIfInBounds_toArray, List.set_cons_zero, List.set_cons_succ]
  refine wpAnyH_take (i := 40) (v := ?_) (by simp only [List.getElem?_toArray, List.getElem?_cons_succ, List.getElem?_cons_zero]; rfl) (by kernel_rfl) (by kernel_rfl) (by kernel_rfl) (by intro _ _ _ h; exact h) (Or.inl ⟨by rfl, ?_⟩) hHeld ?_
  rotate_left 1
  · intro wq hSw
    try dsimp only at hSw
    go_simp
    try (with_reducible rfl)
  try simp only [Act.put, List.setIfInBounds_toArray, List.set_cons_zero, List.set_cons_succ]
  refine wpAnyH_take (i := 41) (v := ?_) (by simp only [List.getElem?_toArray, List.getElem?_cons_succ, List.getElem?_cons_zero]; rfl) (by kernel_rfl) (by kernel_rfl) (by kernel_rfl) (by intro _ _ _ h; exact h) (Or.inl ⟨by rfl, ?_⟩) hHeld ?_
  rotate_left 1
  · intro wq hSw
    try dsimp only at hSw
    have q := str_of (s3.below hSw)
    go_simp
    try (with_reducible rfl)
  try simp only [Act.put, List.setIfInBounds_toArray, List.set_cons_zero, List.set_cons_succ]
  refine wpAnyH_take (i := 42) (v := ?_) (by simp only [List.getElem?_toArray, List.getElem?_cons_succ, List.getElem?_cons_zero]; rfl) (by kernel_rfl) (by kernel_rfl) (by kernel_rfl) (by intro _ _ _ h; exact h) (Or.inl ⟨by rfl, ?_⟩) hHeld ?_
  rotate_left 1
  · intro wq hSw
    try dsimp only at hSw
    go_simp
    try (with_reducible rfl)
  try simp only [Act.put, List.setIfInBounds_toArray, List.set_cons_zero, List.set_cons_succ]
  refine wpAnyH_take (i := 43) (v := ?_) (by simp only [List.getElem?_toArray, List.getElem?_cons_succ, List.getElem?_cons_zero]; rfl) (by kernel_rfl) (by kernel_rfl) (by kernel_rfl) (by intro _ _ _ h; exact h) (Or.inl ⟨by rfl, ?_⟩) hHeld ?_
  rotate_left 1
  · intro wq hSw
    try dsimp only at hSw
    go_simp
    try (with_reducible rfl)
  try simp only [Act.put, List.setIfInBounds_toArray, List.set_cons_zero, List.set_cons_succ]
  refine wpAnyH_take (i := 44) (v := ?_) (by simp only [List.getElem?_toArray, List.getElem?_cons_succ, List.getElem?_cons_zero]; rfl) (by kernel_rfl) (by kernel_rfl) (by kernel_rfl) (by intro _ _ _ h; exact h) (Or.inl ⟨by rfl, ?_⟩) hHeld ?_
  rotate_left 1
  · intro wq hSw
    try dsimp only at hSw
    go_simp
    try (with_reducible rfl)
  try simp only [Act.put, List.setIfInBounds_toArray, List.set_cons_zero, List.set_cons_succ]
  refine wpAnyH_take (i := 45) (v := ?_) (by simp only [List.getElem?_toArray, List.getElem?_cons_succ, List.getElem?_cons_zero]; rfl) (by kernel_rfl) (by kernel_rfl) (by kernel_rfl) (by intro _ _ _ h; exact h) (Or.inl ⟨by rfl, ?_⟩) hHeld ?_
  rotate_left 1
  · intro wq hSw
    try dsimp only at hSw
    go_simp
    try (with_reducible rfl)
  try simp only [Act.put, List.setIfInBounds_toArray, List.set_cons_zero, List.set_cons_succ]
  refine wpAnyH_take (i := 46) (v := ?_) (by simp only [List.getElem?_toArray, List.getElem?_cons_succ, List.getElem?_cons_zero]; rfl) (by kernel_rfl) (by kernel_rfl) (by kernel_rfl) (by intro _ _ _ h; exact h) (Or.inl ⟨by rfl, ?_⟩) hHeld ?_
  rotate_left 1
  · intro wq hSw
    try dsimp only at hSw
    go_simp
    try (with_reducible rfl)
  try simp only [Act.put, List.setIfInBounds_toArray, List.set_cons_zero, List.set_cons_succ]
  refine wpAnyH_take (i := 47) (v := ?_) (by simp only [List.getElem?_toArray, List.getElem?_cons_succ, List.getElem?_cons_zero]; rfl) (by kernel_rfl) (by kernel_rfl) (by kernel_rfl) (by intro _ _ _ h; exact h) (Or.inl ⟨by rfl, ?_⟩) hHeld ?_
  rotate_left 1
  · intro wq hSw
    try dsimp only at hSw
    go_simp
    try (with_reducible rfl)
  try simp only [Act.put, List.setIfInBounds_toArray, List.set_cons_zero, List.set_cons_succ]
  refine wpAnyH_take (i := 48) (v := ?_) (by simp only [List.getElem?_toArray, List.getElem?_cons_succ, List.getElem?_cons_zero]; rfl) (by kernel_rfl) (by kernel_rfl) (by kernel_rfl) (by intro _ _ _ h; exact h) (Or.inl ⟨by rfl, ?_⟩) hHeld ?_
  rotate_left 1
  · intro wq hSw
    try dsimp only at hSw
    go_simp
    try (with_reducible rfl)
  try simp only [Act.put, List.setIfInBounds_toArray, List.set_cons_zero, List.set_cons_succ]
  refine wpAnyH_take (i := 49) (v := ?_) (by simp only [List.getElem?_toArray, List.getElem?_cons_succ, List.getElem?_cons_zero]; rfl) (by kernel_rfl) (by kernel_rfl) (by kernel_rfl) (by intro _ _ _ h; exact h) (Or.inl ⟨by rfl, ?_⟩) hHeld ?_
  rotate_left 1
  · intro wq hSw
    try dsimp only at hSw
    go_simp
    try (with_reducible rfl)
  try simp only [Act.put, List.setIfInBounds_toArray, List.set_cons_zero, List.set_cons_succ]
  refine wpAnyH_done (by kernel_rfl) ?_ _
  go_wp2
  go_ret
  exact ⟨rfl, b1⟩
end Go.Proofs.YtdjengpjbgejlaaDoor
