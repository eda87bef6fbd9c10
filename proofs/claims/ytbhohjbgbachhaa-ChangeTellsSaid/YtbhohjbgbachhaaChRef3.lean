/-
  Contract of the document's Read of changes (written by gen_chref3.py).
-/
import Derived.Test.YtbhohjbgbachhaaCh5
import Derived.Test.YtbhohjbgbachhaaChRef2
import Derived.Test.YtbhohjbgbachhaaRef7h
import Derived.Test.YtbhohjbgbachhaaChS
import Derived.Deep.Cut
namespace Go.Proofs.Ytbhohjbgbachhaa
open Go.RowKit Go.Wag
set_option linter.unusedVariables false
set_option linter.unusedSimpArgs false
set_option maxRecDepth 20000
theorem gdoc_yes {b : List UInt8} {l : List Xp} (h9 : 9 ≤ b.length) (hm : 9 + cnM b ≤ b.length) (hl : if cnK b = 8 then xrd (b.drop (9 + cnM b)) = some l else l = []) (hw : cwr (cX b l) = some b) : crd b = some (cX b l) := by rw [crd_doc h9 hm hl, if_pos hw]
theorem gdoc_no {b : List UInt8} {l : List Xp} (h9 : 9 ≤ b.length) (hm : 9 + cnM b ≤ b.length) (hl : if cnK b = 8 then xrd (b.drop (9 + cnM b)) = some l else l = []) (hw : ¬ cwr (cX b l) = some b) : crd b = none := by rw [crd_doc h9 hm hl, if_neg hw]
set_option maxHeartbeats 8000000 in
theorem gRead_any (A : Option Addr) (n c : Nat) (b : List UInt8) (w : World) (h : Sl w A n c (b.map v8)) (hn : n ≤ 1000000) :
    Calls Try.prog 27 #[.slice A n c] w (ChPost w (crd b)) := by
  have HN : Hid (b.length = n) := h.len8
  have hcap := h.cap
  have hbig := h.big
  have bb := (Below.refl w.heap.size w).alloc (Nat.le_refl _) (.cells #[.int .i64 0, .int .i64 0, .int .i64 0, .int .i64 0, .slice none 0 0, .slice none 0 0] 37)
  have U := Blk.new w #[.int .i64 0, .int .i64 0, .int .i64 0, .int .i64 0, .slice none 0 0, .slice none 0 0] 37
  have HU := h.alloc (.cells #[.int .i64 0, .int .i64 0, .int .i64 0, .int .i64 0, .slice none 0 0, .slice none 0 0] 37)
  by_cases h9 : (n : Int) < 9
  · have hr : Hid (crd b = none) := crd_short (by rw [HN.out]; omega)
    go_enter Try.func27, Try.ntmps27
    go_upto_region 2 with (fail)
    generalize w.alloc (.cells #[.int .i64 0, .int .i64 0, .int .i64 0, .int .i64 0, .slice none 0 0, .slice none 0 0] 37) = wa at *
    obtain ⟨z0, z1, z2, z3, z4, z5, u0, u1, u2, u3, u4, u5⟩ := U.six
    go_wp2
    try simp only [Exit.inBlock, Exit.then]
    exact ret_blk2 rfl rfl ((((((U.set 0 _).set 1 _).set 2 _).set 3 _).set 4 _).set 5 _) Try.underlying37 (by kernel_rfl) rfl (ChPost.no hr.out ((((((bb.setCell (p := ⟨w.heap.size, 0, none⟩) (Nat.le_refl _) _).setCell (p := ⟨w.heap.size, 1, none⟩) (Nat.le_refl _) _).setCell (p := ⟨w.heap.size, 2, none⟩) (Nat.le_refl _) _).setCell (p := ⟨w.heap.size, 3, none⟩) (Nat.le_refl _) _).setCell (p := ⟨w.heap.size, 4, none⟩) (Nat.le_refl _) _).setCell (p := ⟨w.heap.size, 5, none⟩) (Nat.le_refl _) _))
  have h9n : (9 : Int) ≤ n := by omega
  have HU9 := HU.upto (m := 9) (by omega)
  rw [← List.map_take] at HU9
  go_enter Try.func27, Try.ntmps27
  go_wp2_with fail
  refine (NumsErr.ok (refUnpack_any ⟨#[98, 98, 98, 119, 104]⟩ A 9 c (b.take 9) _ HU9 (by decide) (by omega)) (cunpack (by rw [HN.out]; omega))).mono ?_
  rintro e w2 ⟨A2, n2, c2, rfl, s2, f2, b2⟩
  obtain ⟨g, rfl, rfl, hc4, hcb, hg0, hg1, g0, g1, g2, g3, g4⟩ := nums5x f2
  have lK := cnK_lt b
  have lL := cnL_lt b
  have lN := cnN_lt b
  have lI := cnI_lt b
  have lM := cnM_lt b
  rw [xnat64 (Nat.lt_of_lt_of_le lK (by decide))] at g0
  rw [xnat64 (Nat.lt_of_lt_of_le lL (by decide))] at g1
  rw [xnat64 (Nat.lt_of_lt_of_le lN (by decide))] at g2
  rw [xnat64 (Nat.lt_of_lt_of_le lI (by decide))] at g3
  rw [xnat64 (Nat.lt_of_lt_of_le lM (by decide))] at g4
  replace h := HU.below b2
  replace U := U.under b2
  replace bb := bb.trans (b2.mono bb.size)
  clear s2 f2 HU HU9 b2
  have hX0 : Hid (∀ l, (cX b l).k = (cnK b : Int) ∧ (cX b l).la = (cnL b : Int) ∧ (cX b l).n = (cnN b : Int) ∧ (cX b l).i = (cnI b : Int) ∧ (cX b l).d = (b.drop 9).take (cnM b) ∧ (cX b l).l = l) := fun l => ⟨rfl, rfl, rfl, rfl, rfl, rfl⟩
  have hfew : Hid (b.length < 9 + cnM b → crd b = none) := fun hh => crd_few hh
  have hnox : Hid (cnK b = 8 → xrd (b.drop (9 + cnM b)) = none → crd b = none) := fun q1 q2 => crd_nox q1 q2
  have hyes : Hid (∀ l, 9 ≤ b.length → 9 + cnM b ≤ b.length → (if cnK b = 8 then xrd (b.drop (9 + cnM b)) = some l else l = []) → cwr (cX b l) = some b → crd b = some (cX b l)) := fun l q1 q2 q3 q4 => gdoc_yes q1 q2 q3 q4
  have hno : Hid (∀ l, 9 ≤ b.length → 9 + cnM b ≤ b.length → (if cnK b = 8 then xrd (b.drop (9 + cnM b)) = some l else l = []) → ¬ cwr (cX b l) = some b → crd b = none) := fun l q1 q2 q3 q4 => gdoc_no q1 q2 q3 q4
  have hXs : Hid (∀ l, cX b l = ⟨cnK b, cnL b, cnN b, cnI b, (b.drop 9).take (cnM b), l⟩) := fun l => rfl
  obtain ⟨Kd, HK⟩ : ∃ M, Hid (cnK b = M) := ⟨_, rfl⟩
  obtain ⟨L, HL⟩ : ∃ M, Hid (cnL b = M) := ⟨_, rfl⟩
  obtain ⟨N, HNn⟩ : ∃ M, Hid (cnN b = M) := ⟨_, rfl⟩
  obtain ⟨I, HI⟩ : ∃ M, Hid (cnI b = M) := ⟨_, rfl⟩
  obtain ⟨M, HM⟩ : ∃ M, Hid (cnM b = M) := ⟨_, rfl⟩
  rw [HK.out] at g0 lK
  rw [HL.out] at g1 lL
  rw [HNn.out] at g2 lN
  rw [HI.out] at g3 lI
  rw [HM.out] at g4 lM
  replace hX0 := hX0.out
  replace hXs := hXs.out
  replace hfew := hfew.out
  replace hyes := hyes.out
  replace hno := hno.out
  replace hnox := hnox.out
  rw [HK.out, HL.out, HNn.out, HI.out, HM.out] at hX0
  rw [HK.out, HL.out, HNn.out, HI.out, HM.out] at hXs
  rw [HM.out, HN.out] at hfew
  rw [HK.out, HM.out, HN.out] at hyes
  rw [HK.out, HM.out, HN.out] at hno
  rw [HK.out, HM.out] at hnox
  replace hX0 := Lib.hid hX0
  replace hXs := Lib.hid hXs
  replace hfew := Lib.hid hfew
  replace hyes := Lib.hid hyes
  replace hno := Lib.hid hno
  replace hnox := Lib.hid hnox
  clear HK HL HNn HI HM
  have j0 : wrap64 (Kd : Int) = Kd := by unfold wrap64; omega
  have j1 : wrap64 (L : Int) = L := by unfold wrap64; omega
  have j2 : wrap64 (N : Int) = N := by unfold wrap64; omega
  have j3 : wrap64 (I : Int) = I := by unfold wrap64; omega
  have j4 : wrap64 (M : Int) = M := by unfold wrap64; omega
  have i0 : IntKind.i64.wrap (Kd : Int) = Kd := (IntWalk.i64_left _).trans j0
  have i1 : IntKind.i64.wrap (L : Int) = L := (IntWalk.i64_left _).trans j1
  have i2 : IntKind.i64.wrap (N : Int) = N := (IntWalk.i64_left _).trans j2
  have i3 : IntKind.i64.wrap (I : Int) = I := (IntWalk.i64_left _).trans j3
  have i4 : IntKind.i64.wrap (M : Int) = M := (IntWalk.i64_left _).trans j4
  clear j0 j1 j2 j3 j4
  have hcut := fun W => run_cut (P := Try.prog) 35 5 un22 el22 sz5 A n c .i64 (9 : Int) 9 rfl (by omega) W
  have HR := h.from_ (k := 9) (by omega)
  rw [← List.map_drop] at HR
  have HB := h
  obtain ⟨A9, hA9⟩ : ∃ x, cutA A c 9 = x := ⟨_, rfl⟩
  obtain ⟨n9, hn9⟩ : ∃ x, n - 9 = x := ⟨_, rfl⟩
  obtain ⟨c9, hc9⟩ : ∃ x, c - 9 = x := ⟨_, rfl⟩
  simp only [hA9, hn9, hc9] at hcut HR
  have hcap9 := HR.cap
  have hbig9 := HR.big
  clear h hA9 hc9
  have hw2 := bb.size
  go_wp2_with fail
  refine wp_region_held_drew (S := fun w' => Below w2.heap.size w2 w') (by kernel_rfl) (Below.refl _ _).drew (fun hHeld => ?_)
  try dsimp only at hHeld
  generalize w2.drew = wd at *
  try simp only [Act.put, List.setIfInBounds_toArray, List.set_cons_zero, List.set_cons_succ]
  refine wpAnyH_take (i := 0) (v := ?_) (by simp only [List.getElem?_toArray, List.getElem?_cons_zero]; rfl) (by kernel_rfl) (by kernel_rfl) (by kernel_rfl) (by intro _ _ _ h; exact h) (Or.inl ⟨by rfl, ?_⟩) hHeld ?_
  rotate_left 1
  · intro wq hSw
    try dsimp only at hSw
    go_simp
    try (with_reducible rfl)
  try simp only [Act.put, List.setIfInBounds_toArray, List.set_cons_zero, List.set_cons_succ]
  refine wpAnyH_take (i := 1) (v := ?_) (by simp only [List.getElem?_toArray, List.getElem?_cons_succ, List.getElem?_cons_zero]; rfl) (by kernel_rfl) (by kernel_rfl) (by kernel_rfl) (by intro _ _ _ h; exact h) (Or.inl ⟨by rfl, ?_⟩) hHeld ?_
  rotate_left 1
  · intro wq hSw
    try dsimp only at hSw
    go_simp
    try (with_reducible rfl)
  try simp only [Act.put, List.setIfInBounds_toArray, List.set_cons_zero, List.set_cons_succ]
  refine wpAnyH_take (i := 2) (v := ?_) (by simp only [List.getElem?_toArray, List.getElem?_cons_succ, List.getElem?_cons_zero]; rfl) (by kernel_rfl) (by kernel_rfl) (by kernel_rfl) (by intro _ _ _ h; exact h) (Or.inl ⟨by rfl, ?_⟩) hHeld ?_
  rotate_left 1
  · intro wq hSw
    try dsimp only at hSw
    have x := (hSw.cell (p := ⟨g, 0, none⟩) hg1).trans g0
    go_simp
    try (with_reducible rfl)
  try simp only [Act.put, List.setIfInBounds_toArray, List.set_cons_zero, List.set_cons_succ]
  refine wpAnyH_take (i := 3) (v := ?_) (by simp only [List.getElem?_toArray, List.getElem?_cons_succ, List.getElem?_cons_zero]; rfl) (by kernel_rfl) (by kernel_rfl) (by kernel_rfl) (by intro _ _ _ h; exact h) (Or.inl ⟨by rfl, ?_⟩) hHeld ?_
  rotate_left 1
  · intro wq hSw
    try dsimp only at hSw
    go_simp
    try (with_reducible rfl)
  try simp only [Act.put, List.setIfInBounds_toArray, List.set_cons_zero, List.set_cons_succ]
  refine wpAnyH_take (i := 4) (v := ?_) (by simp only [List.getElem?_toArray, List.getElem?_cons_succ, List.getElem?_cons_zero]; rfl) (by kernel_rfl) (by kernel_rfl) (by kernel_rfl) (by intro _ _ _ h; exact h) (Or.inl ⟨by rfl, ?_⟩) hHeld ?_
  rotate_left 1
  · intro wq hSw
    try dsimp only at hSw
    go_simp
    try (with_reducible rfl)
  try simp only [Act.put, List.setIfInBounds_toArray, List.set_cons_zero, List.set_cons_succ]
  refine wpAnyH_take (i := 5) (v := ?_) (by simp only [List.getElem?_toArray, List.getElem?_cons_succ, List.getElem?_cons_zero]; rfl) (by kernel_rfl) (by kernel_rfl) (by kernel_rfl) (by intro _ _ _ h; exact h) (Or.inl ⟨by rfl, ?_⟩) hHeld ?_
  rotate_left 1
  · intro wq hSw
    try dsimp only at hSw
    go_simp
    try (with_reducible rfl)
  try simp only [Act.put, List.setIfInBounds_toArray, List.set_cons_zero, List.set_cons_succ]
  refine wpAnyH_take (i := 6) (v := ?_) (by simp only [List.getElem?_toArray, List.getElem?_cons_succ, List.getElem?_cons_zero]; rfl) (by kernel_rfl) (by kernel_rfl) (by kernel_rfl) (by intro _ _ _ h; exact h) (Or.inl ⟨by rfl, ?_⟩) hHeld ?_
  rotate_left 1
  · intro wq hSw
    try dsimp only at hSw
    have x := (hSw.cell (p := ⟨g, 1, none⟩) hg1).trans g1
    go_simp
    try (with_reducible rfl)
  try simp only [Act.put, List.setIfInBounds_toArray, List.set_cons_zero, List.set_cons_succ]
  refine wpAnyH_take (i := 7) (v := ?_) (by simp only [List.getElem?_toArray, List.getElem?_cons_succ, List.getElem?_cons_zero]; rfl) (by kernel_rfl) (by kernel_rfl) (by kernel_rfl) (by intro _ _ _ h; exact h) (Or.inl ⟨by rfl, ?_⟩) hHeld ?_
  rotate_left 1
  · intro wq hSw
    try dsimp only at hSw
    go_simp
    try (with_reducible rfl)
  try simp only [Act.put, List.setIfInBounds_toArray, List.set_cons_zero, List.set_cons_succ]
  refine wpAnyH_take (i := 8) (v := ?_) (by simp only [List.getElem?_toArray, List.getElem?_cons_succ, List.getElem?_cons_zero]; rfl) (by kernel_rfl) (by kernel_rfl) (by kernel_rfl) (by intro _ _ _ h; exact h) (Or.inl ⟨by rfl, ?_⟩) hHeld ?_
  rotate_left 1
  · intro wq hSw
    try dsimp only at hSw
    go_simp
    try (with_reducible rfl)
  try simp only [Act.put, List.setIfInBounds_toArray, List.set_cons_zero, List.set_cons_succ]
  refine wpAnyH_take (i := 9) (v := ?_) (by simp only [List.getElem?_toArray, List.getElem?_cons_succ, List.getElem?_cons_zero]; rfl) (by kernel_rfl) (by kernel_rfl) (by kernel_rfl) (by intro _ _ _ h; exact h) (Or.inl ⟨by rfl, ?_⟩) hHeld ?_
  rotate_left 1
  · intro wq hSw
    try dsimp only at hSw
    go_simp
    try (with_reducible rfl)
  try simp only [Act.put, List.setIfInBounds_toArray, List.set_cons_zero, List.set_cons_succ]
  refine wpAnyH_take (i := 10) (v := ?_) (by simp only [List.getElem?_toArray, List.getElem?_cons_succ, List.getElem?_cons_zero]; rfl) (by kernel_rfl) (by kernel_rfl) (by kernel_rfl) (by intro _ _ _ h; exact h) (Or.inl ⟨by rfl, ?_⟩) hHeld ?_
  rotate_left 1
  · intro wq hSw
    try dsimp only at hSw
    have x := (hSw.cell (p := ⟨g, 2, none⟩) hg1).trans g2
    go_simp
    try (with_reducible rfl)
  try simp only [Act.put, List.setIfInBounds_toArray, List.set_cons_zero, List.set_cons_succ]
  refine wpAnyH_take (i := 11) (v := ?_) (by simp only [List.getElem?_toArray, List.getElem?_cons_succ, List.getElem?_cons_zero]; rfl) (by kernel_rfl) (by kernel_rfl) (by kernel_rfl) (by intro _ _ _ h; exact h) (Or.inl ⟨by rfl, ?_⟩) hHeld ?_
  rotate_left 1
  · intro wq hSw
    try dsimp only at hSw
    go_simp
    try (with_reducible rfl)
  try simp only [Act.put, List.setIfInBounds_toArray, List.set_cons_zero, List.set_cons_succ]
  refine wpAnyH_take (i := 12) (v := ?_) (by simp only [List.getElem?_toArray, List.getElem?_cons_succ, List.getElem?_cons_zero]; rfl) (by kernel_rfl) (by kernel_rfl) (by kernel_rfl) (by intro _ _ _ h; exact h) (Or.inl ⟨by rfl, ?_⟩) hHeld ?_
  rotate_left 1
  · intro wq hSw
    try dsimp only at hSw
    go_simp
    try (with_reducible rfl)
  try simp only [Act.put, List.setIfInBounds_toArray, List.set_cons_zero, List.set_cons_succ]
  refine wpAnyH_take (i := 13) (v := ?_) (by simp only [List.getElem?_toArray, List.getElem?_cons_succ, List.getElem?_cons_zero]; rfl) (by kernel_rfl) (by kernel_rfl) (by kernel_rfl) (by intro _ _ _ h; exact h) (Or.inl ⟨by rfl, ?_⟩) hHeld ?_
  rotate_left 1
  · intro wq hSw
    try dsimp only at hSw
    go_simp
    try (with_reducible rfl)
  try simp only [Act.put, List.setIfInBounds_toArray, List.set_cons_zero, List.set_cons_succ]
  refine wpAnyH_take (i := 14) (v := ?_) (by simp only [List.getElem?_toArray, List.getElem?_cons_succ, List.getElem?_cons_zero]; rfl) (by kernel_rfl) (by kernel_rfl) (by kernel_rfl) (by intro _ _ _ h; exact h) (Or.inl ⟨by rfl, ?_⟩) hHeld ?_
  rotate_left 1
  · intro wq hSw
    try dsimp only at hSw
    have x := (hSw.cell (p := ⟨g, 3, none⟩) hg1).trans g3
    go_simp
    try (with_reducible rfl)
  try simp only [Act.put, List.setIfInBounds_toArray, List.set_cons_zero, List.set_cons_succ]
  refine wpAnyH_take (i := 15) (v := ?_) (by simp only [List.getElem?_toArray, List.getElem?_cons_succ, List.getElem?_cons_zero]; rfl) (by kernel_rfl) (by kernel_rfl) (by kernel_rfl) (by intro _ _ _ h; exact h) (Or.inl ⟨by rfl, ?_⟩) hHeld ?_
  rotate_left 1
  · intro wq hSw
    try dsimp only at hSw
    go_simp
    try (with_reducible rfl)
  try simp only [Act.put, List.setIfInBounds_toArray, List.set_cons_zero, List.set_cons_succ]
  refine wpAnyH_take (i := 16) (v := ?_) (by simp only [List.getElem?_toArray, List.getElem?_cons_succ, List.getElem?_cons_zero]; rfl) (by kernel_rfl) (by kernel_rfl) (by kernel_rfl) (by intro _ _ _ h; exact h) (Or.inl ⟨by rfl, ?_⟩) hHeld ?_
  rotate_left 1
  · intro wq hSw
    try dsimp only at hSw
    go_simp
    try (with_reducible rfl)
  try simp only [Act.put, List.setIfInBounds_toArray, List.set_cons_zero, List.set_cons_succ]
  refine wpAnyH_ready (rs := [17]) (by kernel_rfl) (by simp) ?_
  refine AllReadyH.cons (by simp only [List.getElem?_toArray, List.getElem?_cons_succ, List.getElem?_cons_zero]; rfl) (fun K hK => ?_) AllReadyH.nil
  obtain ⟨kv, hkv⟩ : ∃ k, wd.heap.size = k := ⟨_, rfl⟩
  go_simp
  try simp only [hkv]
  have V := Blk.new wd #[.int .i64 0, .int .i64 0, .int .i64 0, .int .i64 0, .slice none 0 0, .slice none 0 0] 37
  rw [hkv] at V
  have hcv : w2.heap.size ≤ kv := by rw [← hkv]; exact hHeld.size
  have bN := hHeld.alloc hHeld.size (.cells #[.int .i64 0, .int .i64 0, .int .i64 0, .int .i64 0, .slice none 0 0, .slice none 0 0] 37)
  clear hkv
  generalize wd.alloc (.cells #[.int .i64 0, .int .i64 0, .int .i64 0, .int .i64 0, .slice none 0 0, .slice none 0 0] 37) = wx at *
  refine hK.out _ _ (bN) (fun hHeld => ?_)
  clear hK K
  try dsimp only at hHeld
  try simp only [Act.put, List.setIfInBounds_toArray, List.set_cons_zero, List.set_cons_succ]
  refine wpAnyH_ready (rs := [18]) (by kernel_rfl) (by simp) ?_
  refine AllReadyH.cons (by simp only [List.getElem?_toArray, List.getElem?_cons_succ, List.getElem?_cons_zero]; rfl) (fun K hK => ?_) AllReadyH.nil
  obtain ⟨q0, q1, q2, q3, q4, q5, i0', i1', i2', i3', i4', i5'⟩ := V.six
  go_simp
  have V2 := ((((((V.set 0 (.int .i64 (Kd : Int))).set 1 (.int .i64 (L : Int))).set 2 (.int .i64 (N : Int))).set 3 (.int .i64 (I : Int))).set 4 (.slice none 0 0)).set 5 (.slice none 0 0))
  simp only [List.setIfInBounds_toArray, List.set_cons_zero, List.set_cons_succ] at V2
  have bS := ((((((bN.setCell (p := ⟨kv, 0, none⟩) hcv (.int .i64 (Kd : Int))).setCell (p := ⟨kv, 1, none⟩) hcv (.int .i64 (L : Int))).setCell (p := ⟨kv, 2, none⟩) hcv (.int .i64 (N : Int))).setCell (p := ⟨kv, 3, none⟩) hcv (.int .i64 (I : Int))).setCell (p := ⟨kv, 4, none⟩) hcv (.slice none 0 0)).setCell (p := ⟨kv, 5, none⟩) hcv (.slice none 0 0))
  clear q0 q1 q2 q3 q4 q5 i0' i1' i2' i3' i4' i5' V bN
  generalize ((((((wx.setCell ⟨kv, 0, none⟩ (.int .i64 (Kd : Int))).setCell ⟨kv, 1, none⟩ (.int .i64 (L : Int))).setCell ⟨kv, 2, none⟩ (.int .i64 (N : Int))).setCell ⟨kv, 3, none⟩ (.int .i64 (I : Int))).setCell ⟨kv, 4, none⟩ (.slice none 0 0)).setCell ⟨kv, 5, none⟩ (.slice none 0 0)) = w3 at *
  have V := V2
  clear V2
  refine hK.out _ _ (bS) (fun hHeld => ?_)
  clear hK K
  try dsimp only at hHeld
  clear bS
  try simp only [Act.put, List.setIfInBounds_toArray, List.set_cons_zero, List.set_cons_succ]
  refine wpAnyH_done (by kernel_rfl) ?_ _
  have hul := U.lt
  have hkrv : w.heap.size ≠ kv := by omega
  have hwkv : w.heap.size ≤ kv := by omega
  replace U := U.under hHeld
  replace bb := bb.trans (hHeld.mono bb.size)
  have HR2 := HR
  have hneB : 0 < n → ∀ ad, A = some ad → ad.block ≠ kv := fun h0 ad e => by obtain ⟨ad', e', hb, _⟩ := HB.cells h0; cases e.symm.trans e'; omega
  replace HR := HR.below hHeld
  replace HB := HB.below hHeld
  replace g4 := (hHeld.cell (p := ⟨g, 4, none⟩) hg1).trans g4
  have hgk : g ≠ kv := by omega
  replace hg1 := Nat.lt_of_lt_of_le hg1 hHeld.size
  clear hHeld g0 g1 g2 g3
  by_cases hM : (n9 : Int) < (M : Int)
  · have hq9 : n < 9 + M := by omega
    have hr := Lib.hid (hfew.out hq9)
    go_upto_region 7 with (fail)
    obtain ⟨z0, z1, z2, z3, z4, z5, u0, u1, u2, u3, u4, u5⟩ := U.six
    go_wp2
    try simp only [Exit.inBlock, Exit.then]
    exact ret_blk2 rfl rfl ((((((U.set 0 _).set 1 _).set 2 _).set 3 _).set 4 _).set 5 _) Try.underlying37 (by kernel_rfl) rfl (ChPost.no hr.out ((((((bb.setCell (p := ⟨w.heap.size, 0, none⟩) (Nat.le_refl _) _).setCell (p := ⟨w.heap.size, 1, none⟩) (Nat.le_refl _) _).setCell (p := ⟨w.heap.size, 2, none⟩) (Nat.le_refl _) _).setCell (p := ⟨w.heap.size, 3, none⟩) (Nat.le_refl _) _).setCell (p := ⟨w.heap.size, 4, none⟩) (Nat.le_refl _) _).setCell (p := ⟨w.heap.size, 5, none⟩) (Nat.le_refl _) _))
  have hM' : M ≤ n9 := by omega
  have HD := HR.upto (m := M) hM'
  have HT := HR.from_ (k := M) hM'
  rw [← List.map_take] at HD
  rw [← List.map_drop, List.drop_drop] at HT
  have hup : ∀ W : World, (Instr.slice 35 (.slice A9 n9 c9) none (some (.int .u64 (M : Int))) none).run Try.prog W = .ok (.slice A9 M c9) W := fun W => by
    rw [run_slice_h W 35 A9 n9 c9 un22 .u64 M (by omega) (by omega)]
    obtain ⟨i, hi, hs⟩ := Option.map_eq_some_iff.1 sz5
    simp [sizeOf, typeInfo, el22, hi, hs, sliced]
    intro _
    cases A9 with
    | none => rfl
    | some ad =>
      have e : ad.add 0 = ad := by unfold Addr.add; split <;> simp_all
      simp [e]
  have hct := fun W => run_cut (P := Try.prog) 35 5 un22 el22 sz5 A9 n9 c9 .u64 (M : Int) M rfl (by omega) W
  obtain ⟨At, hAt⟩ : ∃ x, cutA A9 c9 M = x := ⟨_, rfl⟩
  obtain ⟨nt, hnt⟩ : ∃ x, n9 - M = x := ⟨_, rfl⟩
  obtain ⟨ct, hctt⟩ : ∃ x, c9 - M = x := ⟨_, rfl⟩
  have HT2 := HR2.from_ (k := M) hM'
  simp only [hAt, hnt, hctt] at HT hct HT2
  have hneT : 0 < nt → ∀ ad, At = some ad → ad.block ≠ kv := fun h0 ad e => by obtain ⟨ad', e', hb, _⟩ := HT2.cells h0; cases e.symm.trans e'; omega
  clear hAt hctt HR HR2 HT2
  obtain ⟨D, hD⟩ : ∃ x, (b.drop 9).take M = x := ⟨_, rfl⟩
  rw [hD] at HD
  replace hX0 := hX0.out
  simp only [hD] at hX0
  replace hX0 := Lib.hid hX0
  replace hXs := hXs.out
  simp only [hD] at hXs
  replace hXs := Lib.hid hXs
  replace hD := Lib.hid hD
  obtain ⟨ib, hib, hz0, hz1, hz2⟩ := info_parts i5
  have hvl := V.lt
  go_wp2_with fail
  refine wp_region_held_drew (S := fun w' => But kv w3 w') (by kernel_rfl) (But.refl _ _).drew (fun hHeld => ?_)
  try dsimp only at hHeld
  have Vd := V.drew
  have Ud := U.drew
  have HTd := HT.drew
  have HDd := HD.drew
  have HBd := HB.drew
  have bbd := bb.drew
  have hsd : w3.heap.size ≤ w3.drew.heap.size := Nat.le_refl _
  have hvd : kv < w3.drew.heap.size := hvl
  generalize w3.drew = wd at *
  try simp only [Act.put, List.setIfInBounds_toArray, List.set_cons_zero, List.set_cons_succ]
  refine wpAnyH_take (i := 0) (v := ?_) (by simp only [List.getElem?_toArray, List.getElem?_cons_zero]; rfl) (by kernel_rfl) (by kernel_rfl) (by kernel_rfl) (by intro _ _ _ h; exact h) (Or.inl ⟨by rfl, ?_⟩) hHeld ?_
  rotate_left 1
  · intro wq hSw
    try dsimp only at hSw
    go_simp
    try (with_reducible rfl)
  try simp only [Act.put, List.setIfInBounds_toArray, List.set_cons_zero, List.set_cons_succ]
  refine wpAnyH_take (i := 2) (v := ?_) (by simp only [List.getElem?_toArray, List.getElem?_cons_succ, List.getElem?_cons_zero]; rfl) (by kernel_rfl) (by kernel_rfl) (by kernel_rfl) (by intro _ _ _ h; exact h) (Or.inl ⟨by rfl, ?_⟩) hHeld ?_
  rotate_left 1
  · intro wq hSw
    try dsimp only at hSw
    go_simp
    try (with_reducible rfl)
  try simp only [Act.put, List.setIfInBounds_toArray, List.set_cons_zero, List.set_cons_succ]
  refine wpAnyH_take (i := 3) (v := ?_) (by simp only [List.getElem?_toArray, List.getElem?_cons_succ, List.getElem?_cons_zero]; rfl) (by kernel_rfl) (by kernel_rfl) (by kernel_rfl) (by intro _ _ _ h; exact h) (Or.inl ⟨by rfl, ?_⟩) hHeld ?_
  rotate_left 1
  · intro wq hSw
    try dsimp only at hSw
    go_simp
    try (with_reducible rfl)
  try simp only [Act.put, List.setIfInBounds_toArray, List.set_cons_zero, List.set_cons_succ]
  refine wpAnyH_take (i := 4) (v := ?_) (by simp only [List.getElem?_toArray, List.getElem?_cons_succ, List.getElem?_cons_zero]; rfl) (by kernel_rfl) (by kernel_rfl) (by kernel_rfl) (by intro _ _ _ h; exact h) (Or.inl ⟨by rfl, ?_⟩) hHeld ?_
  rotate_left 1
  · intro wq hSw
    try dsimp only at hSw
    go_simp
    try (with_reducible rfl)
  try simp only [Act.put, List.setIfInBounds_toArray, List.set_cons_zero, List.set_cons_succ]
  refine wpAnyH_take (i := 5) (v := ?_) (by simp only [List.getElem?_toArray, List.getElem?_cons_succ, List.getElem?_cons_zero]; rfl) (by kernel_rfl) (by kernel_rfl) (by kernel_rfl) (by intro _ _ _ h; exact h) (Or.inl ⟨by rfl, ?_⟩) hHeld ?_
  rotate_left 1
  · intro wq hSw
    try dsimp only at hSw
    have x := (hSw.cell (p := ⟨g, 4, none⟩) hg1 hgk).trans g4
    go_simp
    try (with_reducible rfl)
  try simp only [Act.put, List.setIfInBounds_toArray, List.set_cons_zero, List.set_cons_succ]
  refine wpAnyH_take (i := 6) (v := ?_) (by simp only [List.getElem?_toArray, List.getElem?_cons_succ, List.getElem?_cons_zero]; rfl) (by kernel_rfl) (by kernel_rfl) (by kernel_rfl) (by intro _ _ _ h; exact h) (Or.inl ⟨by rfl, ?_⟩) hHeld ?_
  rotate_left 1
  · intro wq hSw
    try dsimp only at hSw
    go_simp
    try (with_reducible rfl)
  try simp only [Act.put, List.setIfInBounds_toArray, List.set_cons_zero, List.set_cons_succ]
  refine wpAnyH_ready (rs := [1]) (by kernel_rfl) (by simp) ?_
  refine AllReadyH.cons (by simp only [List.getElem?_toArray, List.getElem?_cons_succ, List.getElem?_cons_zero]; rfl) (fun K hK => ?_) AllReadyH.nil
  obtain ⟨q0, q1, q2, q3, q4, q5, _⟩ := Vd.six
  go_simp
  refine hK.out _ _ (hHeld) (fun hHeld => ?_)
  clear hK K
  try dsimp only at hHeld
  clear q0 q1 q2 q3 q4 q5
  try simp only [Act.put, List.setIfInBounds_toArray, List.set_cons_zero, List.set_cons_succ]
  refine wpAnyH_ready (rs := [7]) (by kernel_rfl) (by simp) ?_
  refine AllReadyH.cons (by simp only [List.getElem?_toArray, List.getElem?_cons_succ, List.getElem?_cons_zero]; rfl) (fun K hK => ?_) AllReadyH.nil
  obtain ⟨Ad, cd, wx, hr, hO⟩ := run_app (P := Try.prog) (Go.Wag.Own.start (base := wd.heap.size) (World.ownsRow_nil _ _ _ _) (Nat.le_refl _)) 35 35 ib (.int .u8 0) 1 Try.underlying35 hib hz0 hz1 hz2 rfl _ _ _ _ HDd (oneCell8 _) (by omega) (by omega)
  simp only [Nat.zero_add] at hr hO
  refine (if_pos (by rfl)).mpr (wp_app (.tmp 50) (.tmp 55) 35 rfl rfl rfl hr ?_)
  have s9 := hO.to_sl
  rw [List.nil_append] at s9
  have hfr := chOwnFrom hO
  have bO := hO.below (Below.refl _ _) (Nat.le_refl _) (fun k hk => by cases hk)
  have bN : But kv w3 wx := hHeld.call bO
  have hfr9 : ∀ ad, Ad = some ad → w3.heap.size ≤ ad.block := fun ad e => by have h1 := hfr ad e; omega
  have hne9 : 0 < M → ∀ ad, Ad = some ad → ad.block ≠ kv := fun _ ad e => by have h1 := hfr9 ad e; omega
  have V7 := Vd.under bO
  have U7 := Ud.under bO
  have HT7 := HTd.below bO
  have HB7 := HBd.below bO
  have bb7 := bbd.trans (bO.mono bbd.size)
  clear hr hO hfr
  refine hK.out _ _ (bN) (fun hHeld => ?_)
  clear hK K
  try dsimp only at hHeld
  clear bN
  try simp only [Act.put, List.setIfInBounds_toArray, List.set_cons_zero, List.set_cons_succ]
  refine wpAnyH_take (i := 8) (v := ?_) (by simp only [List.getElem?_toArray, List.getElem?_cons_succ, List.getElem?_cons_zero]; rfl) (by kernel_rfl) (by kernel_rfl) (by kernel_rfl) (by intro _ _ _ h; exact h) (Or.inl ⟨by rfl, ?_⟩) hHeld ?_
  rotate_left 1
  · intro wq hSw
    try dsimp only at hSw
    go_simp
    try (with_reducible rfl)
  try simp only [Act.put, List.setIfInBounds_toArray, List.set_cons_zero, List.set_cons_succ]
  refine wpAnyH_ready (rs := [9]) (by kernel_rfl) (by simp) ?_
  refine AllReadyH.cons (by simp only [List.getElem?_toArray, List.getElem?_cons_succ, List.getElem?_cons_zero]; rfl) (fun K hK => ?_) AllReadyH.nil
  obtain ⟨q0, q1, q2, q3, q4, q5, i0', i1', i2', i3', i4', i5'⟩ := V7.six
  go_simp
  have V8 := V7.set 4 (.slice Ad M cd)
  simp only [List.setIfInBounds_toArray, List.set_cons_zero, List.set_cons_succ] at V8
  have U8 := U7.far (a := ⟨kv, 4, none⟩) hkrv (.slice Ad M cd)
  have s8 := s9.farz (a := ⟨kv, 4, none⟩) hne9 (.slice Ad M cd)
  have HT8 := HT7.farz (a := ⟨kv, 4, none⟩) hneT (.slice Ad M cd)
  have HB8 := HB7.farz (a := ⟨kv, 4, none⟩) hneB (.slice Ad M cd)
  have bb8 := bb7.setCell (p := ⟨kv, 4, none⟩) hwkv (.slice Ad M cd)
  have bS := hHeld.set 4 (.slice Ad M cd)
  clear q0 q1 q2 q3 q4 q5 i0' i1' i2' i3' i4' i5' V7 U7 HT7 HB7 bb7 s9
  generalize wx.setCell ⟨kv, 4, none⟩ (.slice Ad M cd) = w4 at *
  refine hK.out _ _ (bS) (fun hHeld => ?_)
  clear hK K
  try dsimp only at hHeld
  clear bS
  try simp only [Act.put, List.setIfInBounds_toArray, List.set_cons_zero, List.set_cons_succ]
  refine wpAnyH_done (by kernel_rfl) ?_ _
  have g4' := (hHeld.cell (p := ⟨g, 4, none⟩) hg1 hgk).trans g4
  have hg4 : g < w4.heap.size := Nat.lt_of_lt_of_le hg1 hHeld.size
  have hw4 : w.heap.size < w4.heap.size := U8.lt
  have hv4 := V8.lt
  have hne0 : 0 < M → ∀ ad, Ad = some ad → ad.block ≠ w.heap.size := fun _ ad e => by have := hfr9 ad e; omega
  clear hHeld g4 hup hfr9 HT HB U V HD
  have bb := bb8
  have U := U8
  clear bb8 U8
  by_cases hk : Kd = 8
  · have hk8 : ((Kd : Int) == 8) = true := by simp; omega
    have hCx := fun W hh => fRead_any At nt ct (b.drop (9 + M)) W hh (by omega)
    obtain ⟨q0, q1, q2, q3, q4, q5, _⟩ := V8.six
    cases hxr : xrd (b.drop (9 + M)) with
    | none =>
      rw [hxr] at hCx
      have hr := Lib.hid (hnox.out hk hxr)
      replace hk := Lib.hid hk
      replace hxr := Lib.hid hxr
      go_wp2_with fail
      refine (hCx _ HT8).mono ?_
      clear hCx q0 q1 q2 q3 q4 q5
      rintro e w5 ⟨Al, ml, cl, hml, rfl, R, b5⟩
      try simp only [errOf, Option.isSome_none, Bool.false_eq_true, if_false]
      replace U := U.under b5
      replace bb := bb.trans (b5.mono bb.size)
      clear b5 R V8 s8 HT8 HB8
      obtain ⟨z0, z1, z2, z3, z4, z5, u0, u1, u2, u3, u4, u5⟩ := U.six
      go_wp2
      try simp only [Exit.inBlock, Exit.then]
      exact ret_blk2 rfl rfl ((((((U.set 0 _).set 1 _).set 2 _).set 3 _).set 4 _).set 5 _) Try.underlying37 (by kernel_rfl) rfl (ChPost.no hr.out ((((((bb.setCell (p := ⟨w.heap.size, 0, none⟩) (Nat.le_refl _) _).setCell (p := ⟨w.heap.size, 1, none⟩) (Nat.le_refl _) _).setCell (p := ⟨w.heap.size, 2, none⟩) (Nat.le_refl _) _).setCell (p := ⟨w.heap.size, 3, none⟩) (Nat.le_refl _) _).setCell (p := ⟨w.heap.size, 4, none⟩) (Nat.le_refl _) _).setCell (p := ⟨w.heap.size, 5, none⟩) (Nat.le_refl _) _))
    | some l =>
      rw [hxr] at hCx
      have hlal := Lib.hid (xrd_la2 hxr)
      have hq : Hid (if Kd = 8 then xrd (b.drop (9 + M)) = some l else l = []) := by show if Kd = 8 then _ else _; rw [if_pos hk]; exact hxr
      replace hk := Lib.hid hk
      replace hxr := Lib.hid hxr
      go_wp2_with fail
      refine (hCx _ HT8).mono ?_
      clear hCx q0 q1 q2 q3 q4 q5
      rintro e w5 ⟨Al, ml, cl, hml, rfl, R, b5⟩
      try simp only [errOf, Option.isSome_some, if_true]
      replace U := (U.under b5).far (a := ⟨kv, 5, none⟩) hkrv (.slice Al ml cl)
      replace bb := (bb.trans (b5.mono bb.size)).setCell (p := ⟨kv, 5, none⟩) hwkv (.slice Al ml cl)
      replace R := R.far (a := ⟨kv, 5, none⟩) (by show ¬ w4.heap.size ≤ kv; omega) (.slice Al ml cl)
      have s := (s8.below b5).farz (a := ⟨kv, 5, none⟩) hne9 (.slice Al ml cl)
      have HB := (HB8.below b5).farz (a := ⟨kv, 5, none⟩) hneB (.slice Al ml cl)
      have V5 := V8.under b5
      have V := V5.set 5 (.slice Al ml cl)
      simp only [List.setIfInBounds_toArray, List.set_cons_zero, List.set_cons_succ] at V
      clear b5 V8 s8 HB8 HT8
      obtain ⟨q0, q1, q2, q3, q4, q5, i0', i1', i2', i3', i4', i5'⟩ := V5.six
      go_upto_region 14 with (fail)
      clear q0 q1 q2 q3 q4 q5 i0' i1' i2' i3' i4' i5' V5
      generalize w5.setCell ⟨kv, 5, none⟩ (.slice Al ml cl) = wt at *
      have hXl := Lib.hid (hX0.out l)
      have hC := gWrite_any Kd L N I Ad M cd Al ml cl D l wt s R (by omega) hlal.out
      rw [← hXs.out l] at hC
      obtain ⟨q0, q1, q2, q3, q4, q5, _⟩ := V.six
      cases hc : cwr (cX b l) with
      | none =>
        rw [hc] at hC
        have hr := Lib.hid (hno.out l (by omega) (by omega) hq.out (by rw [hc]; simp))
        replace hc := Lib.hid hc
        go_wp2_with fail
        refine hC.mono ?_
        clear hC q0 q1 q2 q3 q4 q5
        rintro e w6 ⟨A6, n6, c6, rfl, s6, f6, b6⟩
        try simp only [errOf, Option.isSome_none, Bool.false_eq_true, if_false]
        replace U := U.under b6
        replace bb := bb.trans (b6.mono bb.size)
        clear b6 s6 f6 V R s HB
        obtain ⟨z0, z1, z2, z3, z4, z5, u0, u1, u2, u3, u4, u5⟩ := U.six
        go_wp2
        try simp only [Exit.inBlock, Exit.then]
        exact ret_blk2 rfl rfl ((((((U.set 0 _).set 1 _).set 2 _).set 3 _).set 4 _).set 5 _) Try.underlying37 (by kernel_rfl) rfl (ChPost.no hr.out ((((((bb.setCell (p := ⟨w.heap.size, 0, none⟩) (Nat.le_refl _) _).setCell (p := ⟨w.heap.size, 1, none⟩) (Nat.le_refl _) _).setCell (p := ⟨w.heap.size, 2, none⟩) (Nat.le_refl _) _).setCell (p := ⟨w.heap.size, 3, none⟩) (Nat.le_refl _) _).setCell (p := ⟨w.heap.size, 4, none⟩) (Nat.le_refl _) _).setCell (p := ⟨w.heap.size, 5, none⟩) (Nat.le_refl _) _))
      | some bs =>
        have hC2 := BytesErr.ok hC hc
        clear hC
        by_cases hbs : bs = b
        · have hr := Lib.hid (hyes.out l (by omega) (by omega) hq.out (by rw [hc, hbs]))
          subst hbs
          replace hc := Lib.hid hc
          go_wp2_with fail
          refine hC2.mono ?_
          clear hC2 q0 q1 q2 q3 q4 q5
          rintro e w6 ⟨A6, n6, c6, rfl, s6, f6, b6⟩
          have e6 := str_of s6
          have eB := str_of (HB.below b6)
          replace V := V.under b6
          replace R := R.below b6
          replace s := s.below b6
          replace U := U.under b6
          replace bb := bb.trans (b6.mono bb.size)
          clear b6 s6 f6 HB
          obtain ⟨q0, q1, q2, q3, q4, q5, _⟩ := V.six
          obtain ⟨z0, z1, z2, z3, z4, z5, u0, u1, u2, u3, u4, u5⟩ := U.six
          go_wp2
          try simp only [Exit.inBlock, Exit.then]
          exact ret_blk2 rfl rfl ((((((U.set 0 _).set 1 _).set 2 _).set 3 _).set 4 _).set 5 _) Try.underlying37 (by kernel_rfl) rfl (ChPost.yes hr.out hXl.out.1 hXl.out.2.1 hXl.out.2.2.1 hXl.out.2.2.2.1 (by rw [hXl.out.2.2.2.2.1]; exact ((((((s.farz (a := ⟨w.heap.size, 0, none⟩) hne0 _).farz (a := ⟨w.heap.size, 1, none⟩) hne0 _).farz (a := ⟨w.heap.size, 2, none⟩) hne0 _).farz (a := ⟨w.heap.size, 3, none⟩) hne0 _).farz (a := ⟨w.heap.size, 4, none⟩) hne0 _).farz (a := ⟨w.heap.size, 5, none⟩) hne0 _)) (((((((R.far (a := ⟨w.heap.size, 0, none⟩) (by show ¬ w4.heap.size ≤ w.heap.size; omega) _).far (a := ⟨w.heap.size, 1, none⟩) (by show ¬ w4.heap.size ≤ w.heap.size; omega) _).far (a := ⟨w.heap.size, 2, none⟩) (by show ¬ w4.heap.size ≤ w.heap.size; omega) _).far (a := ⟨w.heap.size, 3, none⟩) (by show ¬ w4.heap.size ≤ w.heap.size; omega) _).far (a := ⟨w.heap.size, 4, none⟩) (by show ¬ w4.heap.size ≤ w.heap.size; omega) _).far (a := ⟨w.heap.size, 5, none⟩) (by show ¬ w4.heap.size ≤ w.heap.size; omega) _).imp (fun _ _ _ => trivial)) ((((((bb.setCell (p := ⟨w.heap.size, 0, none⟩) (Nat.le_refl _) _).setCell (p := ⟨w.heap.size, 1, none⟩) (Nat.le_refl _) _).setCell (p := ⟨w.heap.size, 2, none⟩) (Nat.le_refl _) _).setCell (p := ⟨w.heap.size, 3, none⟩) (Nat.le_refl _) _).setCell (p := ⟨w.heap.size, 4, none⟩) (Nat.le_refl _) _).setCell (p := ⟨w.heap.size, 5, none⟩) (Nat.le_refl _) _))
        · have hr := Lib.hid (hno.out l (by omega) (by omega) hq.out (by rw [hc]; intro e; exact hbs (Option.some.inj e)))
          have hsn := str_ne7 hbs
          have hsn2 : (bs == b) = false := by simpa using hbs
          replace hc := Lib.hid hc
          replace hbs := Lib.hid hbs
          go_wp2_with fail
          refine hC2.mono ?_
          clear hC2 q0 q1 q2 q3 q4 q5
          rintro e w6 ⟨A6, n6, c6, rfl, s6, f6, b6⟩
          have e6 := str_of s6
          have eB := str_of (HB.below b6)
          replace U := U.under b6
          replace bb := bb.trans (b6.mono bb.size)
          clear b6 s6 f6 HB V R s
          obtain ⟨z0, z1, z2, z3, z4, z5, u0, u1, u2, u3, u4, u5⟩ := U.six
          go_wp2
          try simp only [Exit.inBlock, Exit.then]
          exact ret_blk2 rfl rfl ((((((U.set 0 _).set 1 _).set 2 _).set 3 _).set 4 _).set 5 _) Try.underlying37 (by kernel_rfl) rfl (ChPost.no hr.out ((((((bb.setCell (p := ⟨w.heap.size, 0, none⟩) (Nat.le_refl _) _).setCell (p := ⟨w.heap.size, 1, none⟩) (Nat.le_refl _) _).setCell (p := ⟨w.heap.size, 2, none⟩) (Nat.le_refl _) _).setCell (p := ⟨w.heap.size, 3, none⟩) (Nat.le_refl _) _).setCell (p := ⟨w.heap.size, 4, none⟩) (Nat.le_refl _) _).setCell (p := ⟨w.heap.size, 5, none⟩) (Nat.le_refl _) _))
  · have hk8 : ((Kd : Int) == 8) = false := by simp; omega
    obtain ⟨l, hl0⟩ : ∃ l : List Xp, l = [] := ⟨_, rfl⟩
    have hq : Hid (if Kd = 8 then xrd (b.drop (9 + M)) = some l else l = []) := by show if Kd = 8 then _ else _; rw [if_neg hk]; exact hl0
    have R : Rs extE (fun x => w4.heap.size ≤ x) w4 none 0 0 l := by rw [hl0]; exact Rs.nil _ _ _
    have hlal : Hid (∀ x ∈ l, x.la ≤ 9223372036854775807) := by rw [hl0]; intro x hx; cases hx
    replace hl0 := Lib.hid hl0
    replace hk := Lib.hid hk
    obtain ⟨q0, q1, q2, q3, q4, q5, _⟩ := V8.six
    go_upto_region 14 with (fail)
    clear q0 q1 q2 q3 q4 q5
    have V := V8
    have s := s8
    have HB := HB8
    clear V8 s8 HB8 HT8
    have hXl := Lib.hid (hX0.out l)
    have hC := gWrite_any Kd L N I Ad M cd none 0 0 D l w4 s R (by omega) hlal.out
    rw [← hXs.out l] at hC
    obtain ⟨q0, q1, q2, q3, q4, q5, _⟩ := V.six
    cases hc : cwr (cX b l) with
    | none =>
      rw [hc] at hC
      have hr := Lib.hid (hno.out l (by omega) (by omega) hq.out (by rw [hc]; simp))
      replace hc := Lib.hid hc
      go_wp2_with fail
      refine hC.mono ?_
      clear hC q0 q1 q2 q3 q4 q5
      rintro e w6 ⟨A6, n6, c6, rfl, s6, f6, b6⟩
      try simp only [errOf, Option.isSome_none, Bool.false_eq_true, if_false]
      replace U := U.under b6
      replace bb := bb.trans (b6.mono bb.size)
      clear b6 s6 f6 V R s HB
      obtain ⟨z0, z1, z2, z3, z4, z5, u0, u1, u2, u3, u4, u5⟩ := U.six
      go_wp2
      try simp only [Exit.inBlock, Exit.then]
      exact ret_blk2 rfl rfl ((((((U.set 0 _).set 1 _).set 2 _).set 3 _).set 4 _).set 5 _) Try.underlying37 (by kernel_rfl) rfl (ChPost.no hr.out ((((((bb.setCell (p := ⟨w.heap.size, 0, none⟩) (Nat.le_refl _) _).setCell (p := ⟨w.heap.size, 1, none⟩) (Nat.le_refl _) _).setCell (p := ⟨w.heap.size, 2, none⟩) (Nat.le_refl _) _).setCell (p := ⟨w.heap.size, 3, none⟩) (Nat.le_refl _) _).setCell (p := ⟨w.heap.size, 4, none⟩) (Nat.le_refl _) _).setCell (p := ⟨w.heap.size, 5, none⟩) (Nat.le_refl _) _))
    | some bs =>
      have hC2 := BytesErr.ok hC hc
      clear hC
      by_cases hbs : bs = b
      · have hr := Lib.hid (hyes.out l (by omega) (by omega) hq.out (by rw [hc, hbs]))
        subst hbs
        replace hc := Lib.hid hc
        go_wp2_with fail
        refine hC2.mono ?_
        clear hC2 q0 q1 q2 q3 q4 q5
        rintro e w6 ⟨A6, n6, c6, rfl, s6, f6, b6⟩
        have e6 := str_of s6
        have eB := str_of (HB.below b6)
        replace V := V.under b6
        replace R := R.below b6
        replace s := s.below b6
        replace U := U.under b6
        replace bb := bb.trans (b6.mono bb.size)
        clear b6 s6 f6 HB
        obtain ⟨q0, q1, q2, q3, q4, q5, _⟩ := V.six
        obtain ⟨z0, z1, z2, z3, z4, z5, u0, u1, u2, u3, u4, u5⟩ := U.six
        go_wp2
        try simp only [Exit.inBlock, Exit.then]
        exact ret_blk2 rfl rfl ((((((U.set 0 _).set 1 _).set 2 _).set 3 _).set 4 _).set 5 _) Try.underlying37 (by kernel_rfl) rfl (ChPost.yes hr.out hXl.out.1 hXl.out.2.1 hXl.out.2.2.1 hXl.out.2.2.2.1 (by rw [hXl.out.2.2.2.2.1]; exact ((((((s.farz (a := ⟨w.heap.size, 0, none⟩) hne0 _).farz (a := ⟨w.heap.size, 1, none⟩) hne0 _).farz (a := ⟨w.heap.size, 2, none⟩) hne0 _).farz (a := ⟨w.heap.size, 3, none⟩) hne0 _).farz (a := ⟨w.heap.size, 4, none⟩) hne0 _).farz (a := ⟨w.heap.size, 5, none⟩) hne0 _)) (((((((R.far (a := ⟨w.heap.size, 0, none⟩) (by show ¬ w4.heap.size ≤ w.heap.size; omega) _).far (a := ⟨w.heap.size, 1, none⟩) (by show ¬ w4.heap.size ≤ w.heap.size; omega) _).far (a := ⟨w.heap.size, 2, none⟩) (by show ¬ w4.heap.size ≤ w.heap.size; omega) _).far (a := ⟨w.heap.size, 3, none⟩) (by show ¬ w4.heap.size ≤ w.heap.size; omega) _).far (a := ⟨w.heap.size, 4, none⟩) (by show ¬ w4.heap.size ≤ w.heap.size; omega) _).far (a := ⟨w.heap.size, 5, none⟩) (by show ¬ w4.heap.size ≤ w.heap.size; omega) _).imp (fun _ _ _ => trivial)) ((((((bb.setCell (p := ⟨w.heap.size, 0, none⟩) (Nat.le_refl _) _).setCell (p := ⟨w.heap.size, 1, none⟩) (Nat.le_refl _) _).setCell (p := ⟨w.heap.size, 2, none⟩) (Nat.le_refl _) _).setCell (p := ⟨w.heap.size, 3, none⟩) (Nat.le_refl _) _).setCell (p := ⟨w.heap.size, 4, none⟩) (Nat.le_refl _) _).setCell (p := ⟨w.heap.size, 5, none⟩) (Nat.le_refl _) _))
      · have hr := Lib.hid (hno.out l (by omega) (by omega) hq.out (by rw [hc]; intro e; exact hbs (Option.some.inj e)))
        have hsn := str_ne7 hbs
        have hsn2 : (bs == b) = false := by simpa using hbs
        replace hc := Lib.hid hc
        replace hbs := Lib.hid hbs
        go_wp2_with fail
        refine hC2.mono ?_
        clear hC2 q0 q1 q2 q3 q4 q5
        rintro e w6 ⟨A6, n6, c6, rfl, s6, f6, b6⟩
        have e6 := str_of s6
        have eB := str_of (HB.below b6)
        replace U := U.under b6
        replace bb := bb.trans (b6.mono bb.size)
        clear b6 s6 f6 HB V R s
        obtain ⟨z0, z1, z2, z3, z4, z5, u0, u1, u2, u3, u4, u5⟩ := U.six
        go_wp2
        try simp only [Exit.inBlock, Exit.then]
        exact ret_blk2 rfl rfl ((((((U.set 0 _).set 1 _).set 2 _).set 3 _).set 4 _).set 5 _) Try.underlying37 (by kernel_rfl) rfl (ChPost.no hr.out ((((((bb.setCell (p := ⟨w.heap.size, 0, none⟩) (Nat.le_refl _) _).setCell (p := ⟨w.heap.size, 1, none⟩) (Nat.le_refl _) _).setCell (p := ⟨w.heap.size, 2, none⟩) (Nat.le_refl _) _).setCell (p := ⟨w.heap.size, 3, none⟩) (Nat.le_refl _) _).setCell (p := ⟨w.heap.size, 4, none⟩) (Nat.le_refl _) _).setCell (p := ⟨w.heap.size, 5, none⟩) (Nat.le_refl _) _))
end Go.Proofs.Ytbhohjbgbachhaa
