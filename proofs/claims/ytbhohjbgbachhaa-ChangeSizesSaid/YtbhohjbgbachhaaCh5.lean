/-
  Contract of change.Read (written by gen_ch5.py).
-/
import Derived.Test.YtbhohjbgbachhaaCh4
import Derived.Deep.Cut
namespace Go.Wag
open Go.RowKit
def ch0 : Ch := ⟨0, 0, 0, 0, [], []⟩
theorem cls_ls {b : List UInt8} (h : 9 + cnM b ≤ b.length) : cls b = if (cnK b : Int) = 8 then xrd (b.drop (9 + cnM b)) else if (b.drop (9 + cnM b)).length = 0 then some [] else none := by
  unfold cls
  by_cases hk : cnK b = 8
  · have hk' : (cnK b : Int) = 8 := by omega
    rw [if_pos hk, if_pos hk']
  · have hk' : ¬ (cnK b : Int) = 8 := by omega
    rw [if_neg hk, if_neg hk', List.length_drop]
    by_cases hl : b.length ≤ 9 + cnM b
    · rw [if_pos hl, if_pos (by omega)]
    · rw [if_neg hl, if_neg (by omega)]
theorem xrd_la2 {l : List Xp} {b : List UInt8} (h : xrd b = some l) : ∀ x ∈ l, x.la ≤ 9223372036854775807 := fun x hx => by
  have := Xp.all (xallok_all (xwr_some (xwr_rd h)).2.1 x hx)
  omega
theorem cls_la {l : List Xp} {b : List UInt8} (h : cls b = some l) : ∀ x ∈ l, x.la ≤ 9223372036854775807 := by
  unfold cls at h
  split at h
  · exact xrd_la2 h
  · split at h
    · cases h
      intro x hx
      cases hx
    · cases h
/-- Five numbers that a call has made. -/
theorem nums5x {e : TypeId} {w w' : World} {A : Option Addr} {n c : Nat} {x0 x1 x2 x3 x4 : UInt64} (h : Nw e w w' A n c ([x0, x1, x2, x3, x4].map v64)) : ∃ g, A = some ⟨g, 0, none⟩ ∧ n = 5 ∧ 5 ≤ c ∧ c ≤ 9223372036854775807 ∧ w.heap.size ≤ g ∧ g < w'.heap.size ∧
    w'.cell? ⟨g, 0, none⟩ = some (.int .u64 (x0.toNat : Int)) ∧ w'.cell? ⟨g, 1, none⟩ = some (.int .u64 (x1.toNat : Int)) ∧ w'.cell? ⟨g, 2, none⟩ = some (.int .u64 (x2.toNat : Int)) ∧ w'.cell? ⟨g, 3, none⟩ = some (.int .u64 (x3.toNat : Int)) ∧ w'.cell? ⟨g, 4, none⟩ = some (.int .u64 (x4.toNat : Int)) := by
  have hn : 5 = n := by simpa using h.1
  subst hn
  have h' := h
  rcases h.2 with ⟨_, h0⟩ | ⟨g, cap, cur, hv, hb, hg, hnc, hm, _⟩
  · cases h0
  · obtain ⟨rfl, rfl⟩ : A = some ⟨g, 0, none⟩ ∧ c = cap := by simpa using hv
    have hc := World.ownsRow.cells (g := g) h' rfl
    have e : ∀ j, ((⟨g, 0, none⟩ : Addr).add j) = ⟨g, j, none⟩ := fun j => by unfold Addr.add; split <;> simp_all
    refine ⟨g, rfl, rfl, hnc, by simpa [maxLen] using hm, hb, (Array.getElem?_eq_some_iff.1 hg).1, ?_, ?_, ?_, ?_, ?_⟩
    · rw [← e]; exact hc 0 _ rfl
    · rw [← e]; exact hc 1 _ rfl
    · rw [← e]; exact hc 2 _ rfl
    · rw [← e]; exact hc 3 _ rfl
    · rw [← e]; exact hc 4 _ rfl
theorem chOwnFrom {B : Nat} {e : TypeId} {w0 w' : World} {v0 : Value} {A : Option Addr} {n c : Nat} {xs : List Value} (h : Go.Wag.Own B e w0 w' v0 (.slice A n c) n xs) : ∀ ad, A = some ad → B ≤ ad.block := by
  rintro ad rfl
  rcases h.own.2 with ⟨hv, _⟩ | ⟨g, cap, cur, hv, hg, _⟩
  · simp at hv
  · simp only [Value.slice.injEq, Option.some.injEq] at hv
    obtain ⟨rfl, _⟩ := hv
    exact hg
end Go.Wag
namespace Go.Proofs.Ytbhohjbgbachhaa
open Go.RowKit Go.Wag
set_option linter.unusedVariables false
set_option linter.unusedSimpArgs false
set_option maxRecDepth 20000
/-- What Read answers: a change in new memory, or the empty one. -/
def ChPost (w : World) (r : Option Ch) (e : Ending) (w' : World) : Prop :=
  ∃ (c : Ch) (er : Int) (Ad : Option Addr) (md cd : Nat) (Al : Option Addr) (ml cl : Nat), Hid (c = r.getD ch0) ∧ Hid (er = errOf r 100) ∧ e = .returned (.tuple #[.agg #[.int .i64 c.k, .int .i64 c.la, .int .i64 c.n, .int .i64 c.i, .slice Ad md cd, .slice Al ml cl], .int .i64 er]) ∧
    Sl w' Ad md cd (c.d.map v8) ∧ Rs extE (fun _ => True) w' Al ml cl c.l ∧ Below w.heap.size w w'
theorem ChPost.no {w w' : World} {r : Option Ch} (hr : r = none) (hb : Below w.heap.size w w') : ChPost w r (.returned (.tuple #[.agg #[.int .i64 0, .int .i64 0, .int .i64 0, .int .i64 0, .slice none 0 0, .slice none 0 0], .int .i64 100])) w' := by
  subst hr
  exact ⟨ch0, 100, none, 0, 0, none, 0, 0, rfl, rfl, rfl, Sl.nil _, Rs.nil _ _ _, hb⟩
theorem ChPost.yes {w w' : World} {r : Option Ch} {c : Ch} {k la n i : Int} {Ad : Option Addr} {md cd : Nat} {Al : Option Addr} {ml cl : Nat} (hr : r = some c) (h1 : c.k = k) (h2 : c.la = la) (h3 : c.n = n) (h4 : c.i = i) (hS : Sl w' Ad md cd (c.d.map v8)) (hR : Rs extE (fun _ => True) w' Al ml cl c.l) (hb : Below w.heap.size w w') :
    ChPost w r (.returned (.tuple #[.agg #[.int .i64 k, .int .i64 la, .int .i64 n, .int .i64 i, .slice Ad md cd, .slice Al ml cl], .int .i64 0])) w' := by
  subst hr h1 h2 h3 h4
  exact ⟨c, 0, Ad, md, cd, Al, ml, cl, rfl, rfl, rfl, hS, hR, hb⟩
set_option maxHeartbeats 8000000 in
theorem chRead_any (A : Option Addr) (n c : Nat) (b : List UInt8) (w : World) (h : Sl w A n c (b.map v8)) (hn : n ≤ 1000000) :
    Calls Try.prog 26 #[.slice A n c] w (ChPost w (crd b)) := by
  have HN : Hid (b.length = n) := h.len8
  have hcap := h.cap
  have hbig := h.big
  have bb := (Below.refl w.heap.size w).alloc (Nat.le_refl _) (.cells #[.int .i64 0, .int .i64 0, .int .i64 0, .int .i64 0, .slice none 0 0, .slice none 0 0] 37)
  have U := Blk.new w #[.int .i64 0, .int .i64 0, .int .i64 0, .int .i64 0, .slice none 0 0, .slice none 0 0] 37
  have HU := h.alloc (.cells #[.int .i64 0, .int .i64 0, .int .i64 0, .int .i64 0, .slice none 0 0, .slice none 0 0] 37)
  by_cases h9 : (n : Int) < 9
  · have hr : Hid (crd b = none) := crd_short (by rw [HN.out]; omega)
    go_enter Try.func26, Try.ntmps26
    go_wp2_with fail
    refine (NumsErr.no (Unpack_any ⟨#[98, 98, 98, 119, 104]⟩ A n c b _ HU (by decide)) (cunpack_short (by rw [HN.out]; omega))).mono ?_
    rintro e w2 ⟨A2, n2, c2, rfl, s2, f2, b2⟩
    replace U := U.under b2
    replace bb := bb.trans (b2.mono bb.size)
    clear b2 s2 f2 HU
    obtain ⟨z0, z1, z2, z3, z4, z5, u0, u1, u2, u3, u4, u5⟩ := U.six
    go_wp2
    try simp only [Exit.inBlock, Exit.then]
    exact ret_blk2 rfl rfl ((((((U.set 0 _).set 1 _).set 2 _).set 3 _).set 4 _).set 5 _) Try.underlying37 (by kernel_rfl) rfl (ChPost.no hr.out ((((((bb.setCell (p := ⟨w.heap.size, 0, none⟩) (Nat.le_refl _) _).setCell (p := ⟨w.heap.size, 1, none⟩) (Nat.le_refl _) _).setCell (p := ⟨w.heap.size, 2, none⟩) (Nat.le_refl _) _).setCell (p := ⟨w.heap.size, 3, none⟩) (Nat.le_refl _) _).setCell (p := ⟨w.heap.size, 4, none⟩) (Nat.le_refl _) _).setCell (p := ⟨w.heap.size, 5, none⟩) (Nat.le_refl _) _))
  have h9n : (9 : Int) ≤ n := by omega
  have HU9 := HU.upto (m := 9) (by omega)
  rw [← List.map_take] at HU9
  go_enter Try.func26, Try.ntmps26
  go_wp2_with fail
  refine (NumsErr.ok (Unpack_any ⟨#[98, 98, 98, 119, 104]⟩ A 9 c (b.take 9) _ HU9 (by decide)) (cunpack (by rw [HN.out]; omega))).mono ?_
  rintro e w2 ⟨A2, n2, c2, rfl, s2, f2, b2⟩
  obtain ⟨g, rfl, rfl, hc4, hcb, hg0, hg1, g0, g1, g2, g3, g4⟩ := nums5x f2
  have lK := cnK_lt b
  have lL := cnL_lt b
  have lN := cnN_lt b
  have lI := cnI_lt b
  have lM := cnM_lt b
  rw [xnat64 (Nat.lt_of_lt_of_le lK (by decide))] at g0
  rw [xnat64 (Nat.lt_of_lt_of_le lL (by decide))] at g1
  rw [xnat64 (Nat.lt_of_lt_of_le lN (by decide))] at g2
  rw [xnat64 (Nat.lt_of_lt_of_le lI (by decide))] at g3
  rw [xnat64 (Nat.lt_of_lt_of_le lM (by decide))] at g4
  replace h := HU.below b2
  replace U := U.under b2
  replace bb := bb.trans (b2.mono bb.size)
  clear s2 f2 HU HU9 b2
  have hX0 : Hid (∀ l, (cX b l).k = (cnK b : Int) ∧ (cX b l).la = (cnL b : Int) ∧ (cX b l).n = (cnN b : Int) ∧ (cX b l).i = (cnI b : Int) ∧ (cX b l).d = (b.drop 9).take (cnM b) ∧ (cX b l).l = l) := fun l => ⟨rfl, rfl, rfl, rfl, rfl, rfl⟩
  have hcl : Hid (9 + cnM b ≤ b.length → cls b = lsF (cnK b) (b.drop (9 + cnM b))) := fun hh => cls_ls hh
  have hfew : Hid (b.length < 9 + cnM b → crd b = none) := fun hh => crd_few hh
  have hyes : Hid (∀ l, 9 ≤ b.length → 9 + cnM b ≤ b.length → cls b = some l → (cX b l).ok = true → crd b = some (cX b l)) := fun l q1 q2 q3 q4 => crd_yes q1 q2 q3 q4
  obtain ⟨Kd, HK⟩ : ∃ M, Hid (cnK b = M) := ⟨_, rfl⟩
  obtain ⟨L, HL⟩ : ∃ M, Hid (cnL b = M) := ⟨_, rfl⟩
  obtain ⟨N, HNn⟩ : ∃ M, Hid (cnN b = M) := ⟨_, rfl⟩
  obtain ⟨I, HI⟩ : ∃ M, Hid (cnI b = M) := ⟨_, rfl⟩
  obtain ⟨M, HM⟩ : ∃ M, Hid (cnM b = M) := ⟨_, rfl⟩
  rw [HK.out] at g0 lK
  rw [HL.out] at g1 lL
  rw [HNn.out] at g2 lN
  rw [HI.out] at g3 lI
  rw [HM.out] at g4 lM
  replace hX0 := hX0.out
  replace hcl := hcl.out
  replace hfew := hfew.out
  replace hyes := hyes.out
  rw [HK.out, HL.out, HNn.out, HI.out, HM.out] at hX0
  rw [HK.out, HM.out, HN.out] at hcl
  rw [HM.out, HN.out] at hfew
  rw [HM.out, HN.out] at hyes
  replace hX0 := Lib.hid hX0
  replace hcl := Lib.hid hcl
  replace hfew := Lib.hid hfew
  replace hyes := Lib.hid hyes
  clear HK HL HNn HI HM
  have j0 : wrap64 (Kd : Int) = Kd := by unfold wrap64; omega
  have j1 : wrap64 (L : Int) = L := by unfold wrap64; omega
  have j2 : wrap64 (N : Int) = N := by unfold wrap64; omega
  have j3 : wrap64 (I : Int) = I := by unfold wrap64; omega
  have j4 : wrap64 (M : Int) = M := by unfold wrap64; omega
  have i0 : IntKind.i64.wrap (Kd : Int) = Kd := (IntWalk.i64_left _).trans j0
  have i1 : IntKind.i64.wrap (L : Int) = L := (IntWalk.i64_left _).trans j1
  have i2 : IntKind.i64.wrap (N : Int) = N := (IntWalk.i64_left _).trans j2
  have i3 : IntKind.i64.wrap (I : Int) = I := (IntWalk.i64_left _).trans j3
  have i4 : IntKind.i64.wrap (M : Int) = M := (IntWalk.i64_left _).trans j4
  clear j0 j1 j2 j3 j4
  have hcut := fun W => run_cut (P := Try.prog) 35 5 un22 el22 sz5 A n c .i64 (9 : Int) 9 rfl (by omega) W
  have HR := h.from_ (k := 9) (by omega)
  rw [← List.map_drop] at HR
  obtain ⟨A9, hA9⟩ : ∃ x, cutA A c 9 = x := ⟨_, rfl⟩
  obtain ⟨n9, hn9⟩ : ∃ x, n - 9 = x := ⟨_, rfl⟩
  obtain ⟨c9, hc9⟩ : ∃ x, c - 9 = x := ⟨_, rfl⟩
  simp only [hA9, hn9, hc9] at hcut HR
  have hcap9 := HR.cap
  have hbig9 := HR.big
  clear h hA9 hc9
  have hC := fun W => chCut_any A9 n9 c9 M W hcap9 hbig9
  by_cases hM : M ≤ n9
  case neg =>
    have hr := Lib.hid (hfew.out (by omega))
    simp only [if_neg hM] at hC
    go_wp2_with fail
    refine wp_region_held_drew (S := fun w' => Below w2.heap.size w2 w') (by kernel_rfl) (Below.refl _ _).drew (fun hHeld => ?_)
    try dsimp only at hHeld
    generalize w2.drew = wd at *
    try simp only [Act.put, List.setIfInBounds_toArray, List.set_cons_zero, List.set_cons_succ]
    refine wpAnyH_take (i := 0) (v := ?_) (by simp only [List.getElem?_toArray, List.getElem?_cons_zero]; rfl) (by kernel_rfl) (by kernel_rfl) (by kernel_rfl) (by intro _ _ _ h; exact h) (Or.inl ⟨by rfl, ?_⟩) hHeld ?_
    rotate_left 1
    · intro wq hSw
      try dsimp only at hSw
      go_simp
      try (with_reducible rfl)
    try simp only [Act.put, List.setIfInBounds_toArray, List.set_cons_zero, List.set_cons_succ]
    refine wpAnyH_take (i := 1) (v := ?_) (by simp only [List.getElem?_toArray, List.getElem?_cons_succ, List.getElem?_cons_zero]; rfl) (by kernel_rfl) (by kernel_rfl) (by kernel_rfl) (by intro _ _ _ h; exact h) (Or.inl ⟨by rfl, ?_⟩) hHeld ?_
    rotate_left 1
    · intro wq hSw
      try dsimp only at hSw
      go_simp
      try (with_reducible rfl)
    try simp only [Act.put, List.setIfInBounds_toArray, List.set_cons_zero, List.set_cons_succ]
    refine wpAnyH_take (i := 2) (v := ?_) (by simp only [List.getElem?_toArray, List.getElem?_cons_succ, List.getElem?_cons_zero]; rfl) (by kernel_rfl) (by kernel_rfl) (by kernel_rfl) (by intro _ _ _ h; exact h) (Or.inl ⟨by rfl, ?_⟩) hHeld ?_
    rotate_left 1
    · intro wq hSw
      try dsimp only at hSw
      go_simp
      try (with_reducible rfl)
    try simp only [Act.put, List.setIfInBounds_toArray, List.set_cons_zero, List.set_cons_succ]
    refine wpAnyH_take (i := 3) (v := ?_) (by simp only [List.getElem?_toArray, List.getElem?_cons_succ, List.getElem?_cons_zero]; rfl) (by kernel_rfl) (by kernel_rfl) (by kernel_rfl) (by intro _ _ _ h; exact h) (Or.inl ⟨by rfl, ?_⟩) hHeld ?_
    rotate_left 1
    · intro wq hSw
      try dsimp only at hSw
      go_simp
      try (with_reducible rfl)
    try simp only [Act.put, List.setIfInBounds_toArray, List.set_cons_zero, List.set_cons_succ]
    refine wpAnyH_take (i := 4) (v := ?_) (by simp only [List.getElem?_toArray, List.getElem?_cons_succ, List.getElem?_cons_zero]; rfl) (by kernel_rfl) (by kernel_rfl) (by kernel_rfl) (by intro _ _ _ h; exact h) (Or.inl ⟨by rfl, ?_⟩) hHeld ?_
    rotate_left 1
    · intro wq hSw
      try dsimp only at hSw
      have x := (hSw.cell (p := ⟨g, 4, none⟩) hg1).trans g4
      go_simp
      try (with_reducible rfl)
    try simp only [Act.put, List.setIfInBounds_toArray, List.set_cons_zero, List.set_cons_succ]
    refine wpAnyH_take (i := 5) (v := ?_) (by simp only [List.getElem?_toArray, List.getElem?_cons_succ, List.getElem?_cons_zero]; rfl) (by kernel_rfl) (by kernel_rfl) (by kernel_rfl) (by intro _ _ _ h; exact h) (Or.inl ⟨by rfl, ?_⟩) hHeld ?_
    rotate_left 1
    · intro wq hSw
      try dsimp only at hSw
      go_simp
      try (with_reducible rfl)
    try simp only [Act.put, List.setIfInBounds_toArray, List.set_cons_zero, List.set_cons_succ]
    refine wpAnyH_ready (rs := [6]) (by kernel_rfl) (by simp) ?_
    refine AllReadyH.cons (by simp only [List.getElem?_toArray, List.getElem?_cons_succ, List.getElem?_cons_zero]; rfl) (fun K hK => ?_) AllReadyH.nil
    go_simp
    refine (hC wd).mono ?_
    clear hC
    rintro e w3 ⟨rfl, b3⟩
    have bN := hHeld.trans (b3.mono hHeld.size)
    go_wp2_with fail
    refine hK.out _ _ (bN) (fun hHeld => ?_)
    clear hK K
    try dsimp only at hHeld
    clear b3 bN
    try simp only [Act.put, List.setIfInBounds_toArray, List.set_cons_zero, List.set_cons_succ]
    refine wpAnyH_take (i := 7) (v := ?_) (by simp only [List.getElem?_toArray, List.getElem?_cons_succ, List.getElem?_cons_zero]; rfl) (by kernel_rfl) (by kernel_rfl) (by kernel_rfl) (by intro _ _ _ h; exact h) (Or.inl ⟨by rfl, ?_⟩) hHeld ?_
    rotate_left 1
    · intro wq hSw
      try dsimp only at hSw
      go_simp
      try (with_reducible rfl)
    try simp only [Act.put, List.setIfInBounds_toArray, List.set_cons_zero, List.set_cons_succ]
    refine wpAnyH_take (i := 8) (v := ?_) (by simp only [List.getElem?_toArray, List.getElem?_cons_succ, List.getElem?_cons_zero]; rfl) (by kernel_rfl) (by kernel_rfl) (by kernel_rfl) (by intro _ _ _ h; exact h) (Or.inl ⟨by rfl, ?_⟩) hHeld ?_
    rotate_left 1
    · intro wq hSw
      try dsimp only at hSw
      go_simp
      try (with_reducible rfl)
    try simp only [Act.put, List.setIfInBounds_toArray, List.set_cons_zero, List.set_cons_succ]
    refine wpAnyH_take (i := 9) (v := ?_) (by simp only [List.getElem?_toArray, List.getElem?_cons_succ, List.getElem?_cons_zero]; rfl) (by kernel_rfl) (by kernel_rfl) (by kernel_rfl) (by intro _ _ _ h; exact h) (Or.inl ⟨by rfl, ?_⟩) hHeld ?_
    rotate_left 1
    · intro wq hSw
      try dsimp only at hSw
      go_simp
      try (with_reducible rfl)
    try simp only [Act.put, List.setIfInBounds_toArray, List.set_cons_zero, List.set_cons_succ]
    refine wpAnyH_take (i := 10) (v := ?_) (by simp only [List.getElem?_toArray, List.getElem?_cons_succ, List.getElem?_cons_zero]; rfl) (by kernel_rfl) (by kernel_rfl) (by kernel_rfl) (by intro _ _ _ h; exact h) (Or.inl ⟨by rfl, ?_⟩) hHeld ?_
    rotate_left 1
    · intro wq hSw
      try dsimp only at hSw
      go_simp
      try (with_reducible rfl)
    try simp only [Act.put, List.setIfInBounds_toArray, List.set_cons_zero, List.set_cons_succ]
    refine wpAnyH_take (i := 11) (v := ?_) (by simp only [List.getElem?_toArray, List.getElem?_cons_succ, List.getElem?_cons_zero]; rfl) (by kernel_rfl) (by kernel_rfl) (by kernel_rfl) (by intro _ _ _ h; exact h) (Or.inl ⟨by rfl, ?_⟩) hHeld ?_
    rotate_left 1
    · intro wq hSw
      try dsimp only at hSw
      go_simp
      try (with_reducible rfl)
    try simp only [Act.put, List.setIfInBounds_toArray, List.set_cons_zero, List.set_cons_succ]
    refine wpAnyH_take (i := 12) (v := ?_) (by simp only [List.getElem?_toArray, List.getElem?_cons_succ, List.getElem?_cons_zero]; rfl) (by kernel_rfl) (by kernel_rfl) (by kernel_rfl) (by intro _ _ _ h; exact h) (Or.inl ⟨by rfl, ?_⟩) hHeld ?_
    rotate_left 1
    · intro wq hSw
      try dsimp only at hSw
      go_simp
      try (with_reducible rfl)
    try simp only [Act.put, List.setIfInBounds_toArray, List.set_cons_zero, List.set_cons_succ]
    refine wpAnyH_take (i := 13) (v := ?_) (by simp only [List.getElem?_toArray, List.getElem?_cons_succ, List.getElem?_cons_zero]; rfl) (by kernel_rfl) (by kernel_rfl) (by kernel_rfl) (by intro _ _ _ h; exact h) (Or.inl ⟨by rfl, ?_⟩) hHeld ?_
    rotate_left 1
    · intro wq hSw
      try dsimp only at hSw
      go_simp
      try (with_reducible rfl)
    try simp only [Act.put, List.setIfInBounds_toArray, List.set_cons_zero, List.set_cons_succ]
    refine wpAnyH_done (by kernel_rfl) ?_ _
    replace U := U.under hHeld
    replace bb := bb.trans (hHeld.mono bb.size)
    clear hHeld hcut
    obtain ⟨z0, z1, z2, z3, z4, z5, u0, u1, u2, u3, u4, u5⟩ := U.six
    go_wp2
    try simp only [Exit.inBlock, Exit.then]
    exact ret_blk2 rfl rfl ((((((U.set 0 _).set 1 _).set 2 _).set 3 _).set 4 _).set 5 _) Try.underlying37 (by kernel_rfl) rfl (ChPost.no hr.out ((((((bb.setCell (p := ⟨w.heap.size, 0, none⟩) (Nat.le_refl _) _).setCell (p := ⟨w.heap.size, 1, none⟩) (Nat.le_refl _) _).setCell (p := ⟨w.heap.size, 2, none⟩) (Nat.le_refl _) _).setCell (p := ⟨w.heap.size, 3, none⟩) (Nat.le_refl _) _).setCell (p := ⟨w.heap.size, 4, none⟩) (Nat.le_refl _) _).setCell (p := ⟨w.heap.size, 5, none⟩) (Nat.le_refl _) _))
  simp only [if_pos hM] at hC
  go_wp2_with fail
  refine wp_region_held_drew (S := fun w' => Below w2.heap.size w2 w') (by kernel_rfl) (Below.refl _ _).drew (fun hHeld => ?_)
  try dsimp only at hHeld
  generalize w2.drew = wd at *
  try simp only [Act.put, List.setIfInBounds_toArray, List.set_cons_zero, List.set_cons_succ]
  refine wpAnyH_take (i := 0) (v := ?_) (by simp only [List.getElem?_toArray, List.getElem?_cons_zero]; rfl) (by kernel_rfl) (by kernel_rfl) (by kernel_rfl) (by intro _ _ _ h; exact h) (Or.inl ⟨by rfl, ?_⟩) hHeld ?_
  rotate_left 1
  · intro wq hSw
    try dsimp only at hSw
    go_simp
    try (with_reducible rfl)
  try simp only [Act.put, List.setIfInBounds_toArray, List.set_cons_zero, List.set_cons_succ]
  refine wpAnyH_take (i := 1) (v := ?_) (by simp only [List.getElem?_toArray, List.getElem?_cons_succ, List.getElem?_cons_zero]; rfl) (by kernel_rfl) (by kernel_rfl) (by kernel_rfl) (by intro _ _ _ h; exact h) (Or.inl ⟨by rfl, ?_⟩) hHeld ?_
  rotate_left 1
  · intro wq hSw
    try dsimp only at hSw
    go_simp
    try (with_reducible rfl)
  try simp only [Act.put, List.setIfInBounds_toArray, List.set_cons_zero, List.set_cons_succ]
  refine wpAnyH_take (i := 2) (v := ?_) (by simp only [List.getElem?_toArray, List.getElem?_cons_succ, List.getElem?_cons_zero]; rfl) (by kernel_rfl) (by kernel_rfl) (by kernel_rfl) (by intro _ _ _ h; exact h) (Or.inl ⟨by rfl, ?_⟩) hHeld ?_
  rotate_left 1
  · intro wq hSw
    try dsimp only at hSw
    go_simp
    try (with_reducible rfl)
  try simp only [Act.put, List.setIfInBounds_toArray, List.set_cons_zero, List.set_cons_succ]
  refine wpAnyH_take (i := 3) (v := ?_) (by simp only [List.getElem?_toArray, List.getElem?_cons_succ, List.getElem?_cons_zero]; rfl) (by kernel_rfl) (by kernel_rfl) (by kernel_rfl) (by intro _ _ _ h; exact h) (Or.inl ⟨by rfl, ?_⟩) hHeld ?_
  rotate_left 1
  · intro wq hSw
    try dsimp only at hSw
    go_simp
    try (with_reducible rfl)
  try simp only [Act.put, List.setIfInBounds_toArray, List.set_cons_zero, List.set_cons_succ]
  refine wpAnyH_take (i := 4) (v := ?_) (by simp only [List.getElem?_toArray, List.getElem?_cons_succ, List.getElem?_cons_zero]; rfl) (by kernel_rfl) (by kernel_rfl) (by kernel_rfl) (by intro _ _ _ h; exact h) (Or.inl ⟨by rfl, ?_⟩) hHeld ?_
  rotate_left 1
  · intro wq hSw
    try dsimp only at hSw
    have x := (hSw.cell (p := ⟨g, 4, none⟩) hg1).trans g4
    go_simp
    try (with_reducible rfl)
  try simp only [Act.put, List.setIfInBounds_toArray, List.set_cons_zero, List.set_cons_succ]
  refine wpAnyH_take (i := 5) (v := ?_) (by simp only [List.getElem?_toArray, List.getElem?_cons_succ, List.getElem?_cons_zero]; rfl) (by kernel_rfl) (by kernel_rfl) (by kernel_rfl) (by intro _ _ _ h; exact h) (Or.inl ⟨by rfl, ?_⟩) hHeld ?_
  rotate_left 1
  · intro wq hSw
    try dsimp only at hSw
    go_simp
    try (with_reducible rfl)
  try simp only [Act.put, List.setIfInBounds_toArray, List.set_cons_zero, List.set_cons_succ]
  refine wpAnyH_ready (rs := [6]) (by kernel_rfl) (by simp) ?_
  refine AllReadyH.cons (by simp only [List.getElem?_toArray, List.getElem?_cons_succ, List.getElem?_cons_zero]; rfl) (fun K hK => ?_) AllReadyH.nil
  go_simp
  refine (hC wd).mono ?_
  clear hC
  rintro e w3 ⟨rfl, b3⟩
  have bN := hHeld.trans (b3.mono hHeld.size)
  go_wp2_with fail
  refine hK.out _ _ (bN) (fun hHeld => ?_)
  clear hK K
  try dsimp only at hHeld
  clear b3 bN
  try simp only [Act.put, List.setIfInBounds_toArray, List.set_cons_zero, List.set_cons_succ]
  refine wpAnyH_take (i := 7) (v := ?_) (by simp only [List.getElem?_toArray, List.getElem?_cons_succ, List.getElem?_cons_zero]; rfl) (by kernel_rfl) (by kernel_rfl) (by kernel_rfl) (by intro _ _ _ h; exact h) (Or.inl ⟨by rfl, ?_⟩) hHeld ?_
  rotate_left 1
  · intro wq hSw
    try dsimp only at hSw
    go_simp
    try (with_reducible rfl)
  try simp only [Act.put, List.setIfInBounds_toArray, List.set_cons_zero, List.set_cons_succ]
  refine wpAnyH_take (i := 8) (v := ?_) (by simp only [List.getElem?_toArray, List.getElem?_cons_succ, List.getElem?_cons_zero]; rfl) (by kernel_rfl) (by kernel_rfl) (by kernel_rfl) (by intro _ _ _ h; exact h) (Or.inl ⟨by rfl, ?_⟩) hHeld ?_
  rotate_left 1
  · intro wq hSw
    try dsimp only at hSw
    go_simp
    try (with_reducible rfl)
  try simp only [Act.put, List.setIfInBounds_toArray, List.set_cons_zero, List.set_cons_succ]
  refine wpAnyH_take (i := 9) (v := ?_) (by simp only [List.getElem?_toArray, List.getElem?_cons_succ, List.getElem?_cons_zero]; rfl) (by kernel_rfl) (by kernel_rfl) (by kernel_rfl) (by intro _ _ _ h; exact h) (Or.inl ⟨by rfl, ?_⟩) hHeld ?_
  rotate_left 1
  · intro wq hSw
    try dsimp only at hSw
    go_simp
    try (with_reducible rfl)
  try simp only [Act.put, List.setIfInBounds_toArray, List.set_cons_zero, List.set_cons_succ]
  refine wpAnyH_take (i := 10) (v := ?_) (by simp only [List.getElem?_toArray, List.getElem?_cons_succ, List.getElem?_cons_zero]; rfl) (by kernel_rfl) (by kernel_rfl) (by kernel_rfl) (by intro _ _ _ h; exact h) (Or.inl ⟨by rfl, ?_⟩) hHeld ?_
  rotate_left 1
  · intro wq hSw
    try dsimp only at hSw
    go_simp
    try (with_reducible rfl)
  try simp only [Act.put, List.setIfInBounds_toArray, List.set_cons_zero, List.set_cons_succ]
  refine wpAnyH_take (i := 11) (v := ?_) (by simp only [List.getElem?_toArray, List.getElem?_cons_succ, List.getElem?_cons_zero]; rfl) (by kernel_rfl) (by kernel_rfl) (by kernel_rfl) (by intro _ _ _ h; exact h) (Or.inl ⟨by rfl, ?_⟩) hHeld ?_
  rotate_left 1
  · intro wq hSw
    try dsimp only at hSw
    go_simp
    try (with_reducible rfl)
  try simp only [Act.put, List.setIfInBounds_toArray, List.set_cons_zero, List.set_cons_succ]
  refine wpAnyH_take (i := 12) (v := ?_) (by simp only [List.getElem?_toArray, List.getElem?_cons_succ, List.getElem?_cons_zero]; rfl) (by kernel_rfl) (by kernel_rfl) (by kernel_rfl) (by intro _ _ _ h; exact h) (Or.inl ⟨by rfl, ?_⟩) hHeld ?_
  rotate_left 1
  · intro wq hSw
    try dsimp only at hSw
    go_simp
    try (with_reducible rfl)
  try simp only [Act.put, List.setIfInBounds_toArray, List.set_cons_zero, List.set_cons_succ]
  refine wpAnyH_take (i := 13) (v := ?_) (by simp only [List.getElem?_toArray, List.getElem?_cons_succ, List.getElem?_cons_zero]; rfl) (by kernel_rfl) (by kernel_rfl) (by kernel_rfl) (by intro _ _ _ h; exact h) (Or.inl ⟨by rfl, ?_⟩) hHeld ?_
  rotate_left 1
  · intro wq hSw
    try dsimp only at hSw
    go_simp
    try (with_reducible rfl)
  try simp only [Act.put, List.setIfInBounds_toArray, List.set_cons_zero, List.set_cons_succ]
  refine wpAnyH_done (by kernel_rfl) ?_ _
  replace U := U.under hHeld
  replace bb := bb.trans (hHeld.mono bb.size)
  replace HR := HR.below hHeld
  have hgl := hg1
  replace g0 := (hHeld.cell (p := ⟨g, 0, none⟩) hg1).trans g0
  replace g1 := (hHeld.cell (p := ⟨g, 1, none⟩) hg1).trans g1
  replace g2 := (hHeld.cell (p := ⟨g, 2, none⟩) hg1).trans g2
  replace g3 := (hHeld.cell (p := ⟨g, 3, none⟩) hg1).trans g3
  replace g4 := (hHeld.cell (p := ⟨g, 4, none⟩) hg1).trans g4
  replace hg1 := Nat.lt_of_lt_of_le hg1 hHeld.size
  clear hHeld hcut hgl
  have HD := HR.upto (m := M) hM
  have HT := HR.from_ (k := M) hM
  rw [← List.map_take] at HD
  rw [← List.map_drop, List.drop_drop] at HT
  obtain ⟨At, hAt⟩ : ∃ x, cutA A9 c9 M = x := ⟨_, rfl⟩
  obtain ⟨nt, hnt⟩ : ∃ x, n9 - M = x := ⟨_, rfl⟩
  obtain ⟨ct, hct⟩ : ∃ x, c9 - M = x := ⟨_, rfl⟩
  simp only [hAt, hnt, hct] at HT ⊢
  clear hAt hct HR
  replace HD : Sl w3 A9 M M (((b.drop 9).take M).map v8) := ⟨HD.len, Nat.le_refl _, by omega, HD.cells⟩
  obtain ⟨D, hD⟩ : ∃ x, (b.drop 9).take M = x := ⟨_, rfl⟩
  rw [hD] at HD
  replace hX0 := hX0.out
  simp only [hD] at hX0
  replace hX0 := Lib.hid hX0
  replace hD := Lib.hid hD
  obtain ⟨ib, hib, hz0, hz1, hz2⟩ := info_parts i5
  go_wp2_with fail
  refine region_join (α := Nat → Option Addr → Nat → Act) (R := fun T a w' => ∃ (kv : Nat) (Ad : Option Addr) (cd : Nat), a = T kv Ad cd ∧ Blk w' kv #[.int .i64 (Kd : Int), .int .i64 (L : Int), .int .i64 (N : Int), .int .i64 (I : Int), .slice Ad M cd, .slice none 0 0] 37 ∧ Sl w' Ad M cd (D.map v8) ∧ (0 < M → ∀ ad, Ad = some ad → ad.block ≠ kv) ∧ (∀ ad, Ad = some ad → w3.heap.size ≤ ad.block) ∧ w3.heap.size ≤ kv ∧ Below w3.heap.size w3 w') ?T7 ?body7 ?rest7
  case body7 =>
    refine wp_region_held_drew (S := fun w' => Below w3.heap.size w3 w') (by kernel_rfl) (Below.refl _ _).drew (fun hHeld => ?_)
    try dsimp only at hHeld
    generalize w3.drew = wd at *
    try simp only [Act.put, List.setIfInBounds_toArray, List.set_cons_zero, List.set_cons_succ]
    refine wpAnyH_take (i := 0) (v := ?_) (by simp only [List.getElem?_toArray, List.getElem?_cons_zero]; rfl) (by kernel_rfl) (by kernel_rfl) (by kernel_rfl) (by intro _ _ _ h; exact nomatch h.1) (Or.inl ⟨by rfl, ?_⟩) hHeld ?_
    rotate_left 1
    · intro wq hSw
      try dsimp only at hSw
      go_simp
      try (with_reducible rfl)
    try simp only [Act.put, List.setIfInBounds_toArray, List.set_cons_zero, List.set_cons_succ]
    refine wpAnyH_take (i := 1) (v := ?_) (by simp only [List.getElem?_toArray, List.getElem?_cons_succ, List.getElem?_cons_zero]; rfl) (by kernel_rfl) (by kernel_rfl) (by kernel_rfl) (by intro _ _ _ h; exact nomatch h.1) (Or.inl ⟨by rfl, ?_⟩) hHeld ?_
    rotate_left 1
    · intro wq hSw
      try dsimp only at hSw
      go_simp
      try (with_reducible rfl)
    try simp only [Act.put, List.setIfInBounds_toArray, List.set_cons_zero, List.set_cons_succ]
    refine wpAnyH_take (i := 2) (v := ?_) (by simp only [List.getElem?_toArray, List.getElem?_cons_succ, List.getElem?_cons_zero]; rfl) (by kernel_rfl) (by kernel_rfl) (by kernel_rfl) (by intro _ _ _ h; exact nomatch h.1) (Or.inl ⟨by rfl, ?_⟩) hHeld ?_
    rotate_left 1
    · intro wq hSw
      try dsimp only at hSw
      have x := (hSw.cell (p := ⟨g, 0, none⟩) hg1).trans g0
      go_simp
      try (with_reducible rfl)
    try simp only [Act.put, List.setIfInBounds_toArray, List.set_cons_zero, List.set_cons_succ]
    refine wpAnyH_take (i := 3) (v := ?_) (by simp only [List.getElem?_toArray, List.getElem?_cons_succ, List.getElem?_cons_zero]; rfl) (by kernel_rfl) (by kernel_rfl) (by kernel_rfl) (by intro _ _ _ h; exact nomatch h.1) (Or.inl ⟨by rfl, ?_⟩) hHeld ?_
    rotate_left 1
    · intro wq hSw
      try dsimp only at hSw
      go_simp
      try (with_reducible rfl)
    try simp only [Act.put, List.setIfInBounds_toArray, List.set_cons_zero, List.set_cons_succ]
    refine wpAnyH_take (i := 4) (v := ?_) (by simp only [List.getElem?_toArray, List.getElem?_cons_succ, List.getElem?_cons_zero]; rfl) (by kernel_rfl) (by kernel_rfl) (by kernel_rfl) (by intro _ _ _ h; exact nomatch h.1) (Or.inl ⟨by rfl, ?_⟩) hHeld ?_
    rotate_left 1
    · intro wq hSw
      try dsimp only at hSw
      go_simp
      try (with_reducible rfl)
    try simp only [Act.put, List.setIfInBounds_toArray, List.set_cons_zero, List.set_cons_succ]
    refine wpAnyH_take (i := 5) (v := ?_) (by simp only [List.getElem?_toArray, List.getElem?_cons_succ, List.getElem?_cons_zero]; rfl) (by kernel_rfl) (by kernel_rfl) (by kernel_rfl) (by intro _ _ _ h; exact nomatch h.1) (Or.inl ⟨by rfl, ?_⟩) hHeld ?_
    rotate_left 1
    · intro wq hSw
      try dsimp only at hSw
      go_simp
      try (with_reducible rfl)
    try simp only [Act.put, List.setIfInBounds_toArray, List.set_cons_zero, List.set_cons_succ]
    refine wpAnyH_take (i := 6) (v := ?_) (by simp only [List.getElem?_toArray, List.getElem?_cons_succ, List.getElem?_cons_zero]; rfl) (by kernel_rfl) (by kernel_rfl) (by kernel_rfl) (by intro _ _ _ h; exact nomatch h.1) (Or.inl ⟨by rfl, ?_⟩) hHeld ?_
    rotate_left 1
    · intro wq hSw
      try dsimp only at hSw
      have x := (hSw.cell (p := ⟨g, 1, none⟩) hg1).trans g1
      go_simp
      try (with_reducible rfl)
    try simp only [Act.put, List.setIfInBounds_toArray, List.set_cons_zero, List.set_cons_succ]
    refine wpAnyH_take (i := 7) (v := ?_) (by simp only [List.getElem?_toArray, List.getElem?_cons_succ, List.getElem?_cons_zero]; rfl) (by kernel_rfl) (by kernel_rfl) (by kernel_rfl) (by intro _ _ _ h; exact nomatch h.1) (Or.inl ⟨by rfl, ?_⟩) hHeld ?_
    rotate_left 1
    · intro wq hSw
      try dsimp only at hSw
      go_simp
      try (with_reducible rfl)
    try simp only [Act.put, List.setIfInBounds_toArray, List.set_cons_zero, List.set_cons_succ]
    refine wpAnyH_take (i := 8) (v := ?_) (by simp only [List.getElem?_toArray, List.getElem?_cons_succ, List.getElem?_cons_zero]; rfl) (by kernel_rfl) (by kernel_rfl) (by kernel_rfl) (by intro _ _ _ h; exact nomatch h.1) (Or.inl ⟨by rfl, ?_⟩) hHeld ?_
    rotate_left 1
    · intro wq hSw
      try dsimp only at hSw
      go_simp
      try (with_reducible rfl)
    try simp only [Act.put, List.setIfInBounds_toArray, List.set_cons_zero, List.set_cons_succ]
    refine wpAnyH_take (i := 9) (v := ?_) (by simp only [List.getElem?_toArray, List.getElem?_cons_succ, List.getElem?_cons_zero]; rfl) (by kernel_rfl) (by kernel_rfl) (by kernel_rfl) (by intro _ _ _ h; exact nomatch h.1) (Or.inl ⟨by rfl, ?_⟩) hHeld ?_
    rotate_left 1
    · intro wq hSw
      try dsimp only at hSw
      go_simp
      try (with_reducible rfl)
    try simp only [Act.put, List.setIfInBounds_toArray, List.set_cons_zero, List.set_cons_succ]
    refine wpAnyH_take (i := 10) (v := ?_) (by simp only [List.getElem?_toArray, List.getElem?_cons_succ, List.getElem?_cons_zero]; rfl) (by kernel_rfl) (by kernel_rfl) (by kernel_rfl) (by intro _ _ _ h; exact nomatch h.1) (Or.inl ⟨by rfl, ?_⟩) hHeld ?_
    rotate_left 1
    · intro wq hSw
      try dsimp only at hSw
      have x := (hSw.cell (p := ⟨g, 2, none⟩) hg1).trans g2
      go_simp
      try (with_reducible rfl)
    try simp only [Act.put, List.setIfInBounds_toArray, List.set_cons_zero, List.set_cons_succ]
    refine wpAnyH_take (i := 11) (v := ?_) (by simp only [List.getElem?_toArray, List.getElem?_cons_succ, List.getElem?_cons_zero]; rfl) (by kernel_rfl) (by kernel_rfl) (by kernel_rfl) (by intro _ _ _ h; exact nomatch h.1) (Or.inl ⟨by rfl, ?_⟩) hHeld ?_
    rotate_left 1
    · intro wq hSw
      try dsimp only at hSw
      go_simp
      try (with_reducible rfl)
    try simp only [Act.put, List.setIfInBounds_toArray, List.set_cons_zero, List.set_cons_succ]
    refine wpAnyH_take (i := 12) (v := ?_) (by simp only [List.getElem?_toArray, List.getElem?_cons_succ, List.getElem?_cons_zero]; rfl) (by kernel_rfl) (by kernel_rfl) (by kernel_rfl) (by intro _ _ _ h; exact nomatch h.1) (Or.inl ⟨by rfl, ?_⟩) hHeld ?_
    rotate_left 1
    · intro wq hSw
      try dsimp only at hSw
      go_simp
      try (with_reducible rfl)
    try simp only [Act.put, List.setIfInBounds_toArray, List.set_cons_zero, List.set_cons_succ]
    refine wpAnyH_take (i := 13) (v := ?_) (by simp only [List.getElem?_toArray, List.getElem?_cons_succ, List.getElem?_cons_zero]; rfl) (by kernel_rfl) (by kernel_rfl) (by kernel_rfl) (by intro _ _ _ h; exact nomatch h.1) (Or.inl ⟨by rfl, ?_⟩) hHeld ?_
    rotate_left 1
    · intro wq hSw
      try dsimp only at hSw
      go_simp
      try (with_reducible rfl)
    try simp only [Act.put, List.setIfInBounds_toArray, List.set_cons_zero, List.set_cons_succ]
    refine wpAnyH_take (i := 14) (v := ?_) (by simp only [List.getElem?_toArray, List.getElem?_cons_succ, List.getElem?_cons_zero]; rfl) (by kernel_rfl) (by kernel_rfl) (by kernel_rfl) (by intro _ _ _ h; exact nomatch h.1) (Or.inl ⟨by rfl, ?_⟩) hHeld ?_
    rotate_left 1
    · intro wq hSw
      try dsimp only at hSw
      have x := (hSw.cell (p := ⟨g, 3, none⟩) hg1).trans g3
      go_simp
      try (with_reducible rfl)
    try simp only [Act.put, List.setIfInBounds_toArray, List.set_cons_zero, List.set_cons_succ]
    refine wpAnyH_take (i := 15) (v := ?_) (by simp only [List.getElem?_toArray, List.getElem?_cons_succ, List.getElem?_cons_zero]; rfl) (by kernel_rfl) (by kernel_rfl) (by kernel_rfl) (by intro _ _ _ h; exact nomatch h.1) (Or.inl ⟨by rfl, ?_⟩) hHeld ?_
    rotate_left 1
    · intro wq hSw
      try dsimp only at hSw
      go_simp
      try (with_reducible rfl)
    try simp only [Act.put, List.setIfInBounds_toArray, List.set_cons_zero, List.set_cons_succ]
    refine wpAnyH_take (i := 16) (v := ?_) (by simp only [List.getElem?_toArray, List.getElem?_cons_succ, List.getElem?_cons_zero]; rfl) (by kernel_rfl) (by kernel_rfl) (by kernel_rfl) (by intro _ _ _ h; exact nomatch h.1) (Or.inl ⟨by rfl, ?_⟩) hHeld ?_
    rotate_left 1
    · intro wq hSw
      try dsimp only at hSw
      go_simp
      try (with_reducible rfl)
    try simp only [Act.put, List.setIfInBounds_toArray, List.set_cons_zero, List.set_cons_succ]
    refine wpAnyH_ready (rs := [17, 19]) (by kernel_rfl) (by simp) ?_
    refine AllReadyH.cons (by simp only [List.getElem?_toArray, List.getElem?_cons_succ, List.getElem?_cons_zero]; rfl) (fun K hK => ?_) (AllReadyH.cons (by simp only [List.getElem?_toArray, List.getElem?_cons_succ, List.getElem?_cons_zero]; rfl) (fun K hK => ?_) AllReadyH.nil)
    · skip
      obtain ⟨Ad, cd, w_17, hr, hO⟩ := run_app (P := Try.prog) (Go.Wag.Own.start (base := wd.heap.size) (World.ownsRow_nil _ _ _ _) (Nat.le_refl _)) 35 35 ib (.int .u8 0) 1 Try.underlying35 hib hz0 hz1 hz2 rfl _ _ _ _ (HD.below hHeld) (oneCell8 _) (by omega) (by omega)
      simp only [Nat.zero_add] at hr hO
      refine (if_pos (by rfl)).mpr (wp_app (.const (.slice none 0 0)) (.tmp 52) 35 rfl rfl rfl hr ?_)
      have s9 := hO.to_sl
      rw [List.nil_append] at s9
      have hfr := chOwnFrom hO
      have hfr9 : ∀ ad, Ad = some ad → w3.heap.size ≤ ad.block := fun ad e => by have h1 := hfr ad e; have h2 := hHeld.size; omega
      have bO := hO.below (Below.refl _ _) (Nat.le_refl _) (fun k hk => by cases hk)
      have bN := hHeld.trans (bO.mono hHeld.size)
      clear hr hO hfr bO
      refine hK.out _ _ (bN) (fun hHeld => ?_)
      clear hK K
      try dsimp only at hHeld
      clear bN
      try simp only [Act.put, List.setIfInBounds_toArray, List.set_cons_zero, List.set_cons_succ]
      refine wpAnyH_take (i := 18) (v := ?_) (by simp only [List.getElem?_toArray, List.getElem?_cons_succ, List.getElem?_cons_zero]; rfl) (by kernel_rfl) (by kernel_rfl) (by kernel_rfl) (by intro _ _ _ h; exact nomatch h.1) (Or.inl ⟨by rfl, ?_⟩) hHeld ?_
      rotate_left 1
      · intro wq hSw
        try dsimp only at hSw
        go_simp
        try (with_reducible rfl)
      try simp only [Act.put, List.setIfInBounds_toArray, List.set_cons_zero, List.set_cons_succ]
      refine wpAnyH_ready (rs := [19]) (by kernel_rfl) (by simp) ?_
      refine AllReadyH.cons (by simp only [List.getElem?_toArray, List.getElem?_cons_succ, List.getElem?_cons_zero]; rfl) (fun K hK => ?_) AllReadyH.nil
      obtain ⟨kv, hkv⟩ : ∃ k, w_17.heap.size = k := ⟨_, rfl⟩
      go_simp
      try simp only [hkv]
      have V := Blk.new w_17 #[.int .i64 0, .int .i64 0, .int .i64 0, .int .i64 0, .slice none 0 0, .slice none 0 0] 37
      rw [hkv] at V
      have hcv : w3.heap.size ≤ kv := by rw [← hkv]; exact hHeld.size
      have bN := hHeld.alloc hHeld.size (.cells #[.int .i64 0, .int .i64 0, .int .i64 0, .int .i64 0, .slice none 0 0, .slice none 0 0] 37)
      have hne9 : 0 < M → ∀ ad, Ad = some ad → ad.block ≠ kv := fun h0 ad e => by obtain ⟨ad', e', hb, _⟩ := s9.cells h0; cases e.symm.trans e'; omega
      replace s9 := s9.alloc (.cells #[.int .i64 0, .int .i64 0, .int .i64 0, .int .i64 0, .slice none 0 0, .slice none 0 0] 37)
      clear hkv
      generalize w_17.alloc (.cells #[.int .i64 0, .int .i64 0, .int .i64 0, .int .i64 0, .slice none 0 0, .slice none 0 0] 37) = w_17_19 at *
      refine hK.out _ _ (bN) (fun hHeld => ?_)
      clear hK K
      try dsimp only at hHeld
      clear bN
      try simp only [Act.put, List.setIfInBounds_toArray, List.set_cons_zero, List.set_cons_succ]
      refine wpAnyH_ready (rs := [20]) (by kernel_rfl) (by simp) ?_
      refine AllReadyH.cons (by simp only [List.getElem?_toArray, List.getElem?_cons_succ, List.getElem?_cons_zero]; rfl) (fun K hK => ?_) AllReadyH.nil
      obtain ⟨q0, q1, q2, q3, q4, q5, i0', i1', i2', i3', i4', i5'⟩ := V.six
      go_simp
      have V2 := ((((((V.set 0 (.int .i64 (Kd : Int))).set 1 (.int .i64 (L : Int))).set 2 (.int .i64 (N : Int))).set 3 (.int .i64 (I : Int))).set 4 (.slice Ad M cd)).set 5 (.slice none 0 0))
      simp only [List.setIfInBounds_toArray, List.set_cons_zero, List.set_cons_succ] at V2
      have bN := ((((((hHeld.setCell (p := ⟨kv, 0, none⟩) hcv (.int .i64 (Kd : Int))).setCell (p := ⟨kv, 1, none⟩) hcv (.int .i64 (L : Int))).setCell (p := ⟨kv, 2, none⟩) hcv (.int .i64 (N : Int))).setCell (p := ⟨kv, 3, none⟩) hcv (.int .i64 (I : Int))).setCell (p := ⟨kv, 4, none⟩) hcv (.slice Ad M cd)).setCell (p := ⟨kv, 5, none⟩) hcv (.slice none 0 0))
      have s2 := ((((((s9.farz (a := ⟨kv, 0, none⟩) hne9 (.int .i64 (Kd : Int))).farz (a := ⟨kv, 1, none⟩) hne9 (.int .i64 (L : Int))).farz (a := ⟨kv, 2, none⟩) hne9 (.int .i64 (N : Int))).farz (a := ⟨kv, 3, none⟩) hne9 (.int .i64 (I : Int))).farz (a := ⟨kv, 4, none⟩) hne9 (.slice Ad M cd)).farz (a := ⟨kv, 5, none⟩) hne9 (.slice none 0 0))
      clear q0 q1 q2 q3 q4 q5 i0' i1' i2' i3' i4' i5' V s9
      generalize ((((((w_17_19.setCell ⟨kv, 0, none⟩ (.int .i64 (Kd : Int))).setCell ⟨kv, 1, none⟩ (.int .i64 (L : Int))).setCell ⟨kv, 2, none⟩ (.int .i64 (N : Int))).setCell ⟨kv, 3, none⟩ (.int .i64 (I : Int))).setCell ⟨kv, 4, none⟩ (.slice Ad M cd)).setCell ⟨kv, 5, none⟩ (.slice none 0 0)) = w_17_19_20 at *
      have V := V2
      have s9 := s2
      clear V2 s2
      refine hK.out _ _ (bN) (fun hHeld => ?_)
      clear hK K
      try dsimp only at hHeld
      clear bN
      try simp only [Act.put, List.setIfInBounds_toArray, List.set_cons_zero, List.set_cons_succ]
      refine wpAnyH_done (by kernel_rfl) ?_ _
      refine ⟨rfl, kv, Ad, cd, ?_, V, s9, hne9, hfr9, hcv, hHeld⟩
      with_reducible rfl
    · skip
      obtain ⟨kv, hkv⟩ : ∃ k, wd.heap.size = k := ⟨_, rfl⟩
      go_simp
      try simp only [hkv]
      have V := Blk.new wd #[.int .i64 0, .int .i64 0, .int .i64 0, .int .i64 0, .slice none 0 0, .slice none 0 0] 37
      rw [hkv] at V
      have hcv : w3.heap.size ≤ kv := by rw [← hkv]; exact hHeld.size
      have bN := hHeld.alloc hHeld.size (.cells #[.int .i64 0, .int .i64 0, .int .i64 0, .int .i64 0, .slice none 0 0, .slice none 0 0] 37)
      clear hkv
      generalize wd.alloc (.cells #[.int .i64 0, .int .i64 0, .int .i64 0, .int .i64 0, .slice none 0 0, .slice none 0 0] 37) = w_19 at *
      refine hK.out _ _ (bN) (fun hHeld => ?_)
      clear hK K
      try dsimp only at hHeld
      clear bN
      try simp only [Act.put, List.setIfInBounds_toArray, List.set_cons_zero, List.set_cons_succ]
      refine wpAnyH_ready (rs := [17]) (by kernel_rfl) (by simp) ?_
      refine AllReadyH.cons (by simp only [List.getElem?_toArray, List.getElem?_cons_succ, List.getElem?_cons_zero]; rfl) (fun K hK => ?_) AllReadyH.nil
      obtain ⟨Ad, cd, w_19_17, hr, hO⟩ := run_app (P := Try.prog) (Go.Wag.Own.start (base := w_19.heap.size) (World.ownsRow_nil _ _ _ _) (Nat.le_refl _)) 35 35 ib (.int .u8 0) 1 Try.underlying35 hib hz0 hz1 hz2 rfl _ _ _ _ (HD.below hHeld) (oneCell8 _) (by omega) (by omega)
      simp only [Nat.zero_add] at hr hO
      refine (if_pos (by rfl)).mpr (wp_app (.const (.slice none 0 0)) (.tmp 52) 35 rfl rfl rfl hr ?_)
      have s9 := hO.to_sl
      rw [List.nil_append] at s9
      have hfr := chOwnFrom hO
      have hfr9 : ∀ ad, Ad = some ad → w3.heap.size ≤ ad.block := fun ad e => by have h1 := hfr ad e; have h2 := hHeld.size; omega
      have bO := hO.below (Below.refl _ _) (Nat.le_refl _) (fun k hk => by cases hk)
      have bN := hHeld.trans (bO.mono hHeld.size)
      have hvl := V.lt
      have hne9 : 0 < M → ∀ ad, Ad = some ad → ad.block ≠ kv := fun _ ad e => by have := hfr ad e; omega
      replace V := V.under bO
      clear hr hO hfr bO
      refine hK.out _ _ (bN) (fun hHeld => ?_)
      clear hK K
      try dsimp only at hHeld
      clear bN
      try simp only [Act.put, List.setIfInBounds_toArray, List.set_cons_zero, List.set_cons_succ]
      refine wpAnyH_take (i := 18) (v := ?_) (by simp only [List.getElem?_toArray, List.getElem?_cons_succ, List.getElem?_cons_zero]; rfl) (by kernel_rfl) (by kernel_rfl) (by kernel_rfl) (by intro _ _ _ h; exact nomatch h.1) (Or.inl ⟨by rfl, ?_⟩) hHeld ?_
      rotate_left 1
      · intro wq hSw
        try dsimp only at hSw
        go_simp
        try (with_reducible rfl)
      try simp only [Act.put, List.setIfInBounds_toArray, List.set_cons_zero, List.set_cons_succ]
      refine wpAnyH_ready (rs := [20]) (by kernel_rfl) (by simp) ?_
      refine AllReadyH.cons (by simp only [List.getElem?_toArray, List.getElem?_cons_succ, List.getElem?_cons_zero]; rfl) (fun K hK => ?_) AllReadyH.nil
      obtain ⟨q0, q1, q2, q3, q4, q5, i0', i1', i2', i3', i4', i5'⟩ := V.six
      go_simp
      have V2 := ((((((V.set 0 (.int .i64 (Kd : Int))).set 1 (.int .i64 (L : Int))).set 2 (.int .i64 (N : Int))).set 3 (.int .i64 (I : Int))).set 4 (.slice Ad M cd)).set 5 (.slice none 0 0))
      simp only [List.setIfInBounds_toArray, List.set_cons_zero, List.set_cons_succ] at V2
      have bN := ((((((hHeld.setCell (p := ⟨kv, 0, none⟩) hcv (.int .i64 (Kd : Int))).setCell (p := ⟨kv, 1, none⟩) hcv (.int .i64 (L : Int))).setCell (p := ⟨kv, 2, none⟩) hcv (.int .i64 (N : Int))).setCell (p := ⟨kv, 3, none⟩) hcv (.int .i64 (I : Int))).setCell (p := ⟨kv, 4, none⟩) hcv (.slice Ad M cd)).setCell (p := ⟨kv, 5, none⟩) hcv (.slice none 0 0))
      have s2 := ((((((s9.farz (a := ⟨kv, 0, none⟩) hne9 (.int .i64 (Kd : Int))).farz (a := ⟨kv, 1, none⟩) hne9 (.int .i64 (L : Int))).farz (a := ⟨kv, 2, none⟩) hne9 (.int .i64 (N : Int))).farz (a := ⟨kv, 3, none⟩) hne9 (.int .i64 (I : Int))).farz (a := ⟨kv, 4, none⟩) hne9 (.slice Ad M cd)).farz (a := ⟨kv, 5, none⟩) hne9 (.slice none 0 0))
      clear q0 q1 q2 q3 q4 q5 i0' i1' i2' i3' i4' i5' V s9
      generalize ((((((w_19_17.setCell ⟨kv, 0, none⟩ (.int .i64 (Kd : Int))).setCell ⟨kv, 1, none⟩ (.int .i64 (L : Int))).setCell ⟨kv, 2, none⟩ (.int .i64 (N : Int))).setCell ⟨kv, 3, none⟩ (.int .i64 (I : Int))).setCell ⟨kv, 4, none⟩ (.slice Ad M cd)).setCell ⟨kv, 5, none⟩ (.slice none 0 0)) = w_19_17_20 at *
      have V := V2
      have s9 := s2
      clear V2 s2
      refine hK.out _ _ (bN) (fun hHeld => ?_)
      clear hK K
      try dsimp only at hHeld
      clear bN
      try simp only [Act.put, List.setIfInBounds_toArray, List.set_cons_zero, List.set_cons_succ]
      refine wpAnyH_done (by kernel_rfl) ?_ _
      refine ⟨rfl, kv, Ad, cd, ?_, V, s9, hne9, hfr9, hcv, hHeld⟩
      with_reducible rfl
  rintro a w4 ⟨kv, Ad, cd, rfl, V, s9, hne9, hfr9, hkv, b4⟩
  try dsimp only
  have hul := U.lt
  have hkrv : w.heap.size ≠ kv := by omega
  have hwkv : w.heap.size ≤ kv := by omega
  have hne0 : 0 < M → ∀ ad, Ad = some ad → ad.block ≠ w.heap.size := fun _ ad e => by have := hfr9 ad e; omega
  replace U := U.under b4
  replace bb := bb.trans (b4.mono bb.size)
  replace HT := HT.below b4
  clear g0 g1 g2 g3 g4 hfr9 b4 HD
  have hC := chListOf_any (Kd : Int) At nt ct (b.drop (9 + M)) w4 HT (by omega)
  have hKcl := hcl.out (by omega)
  have hw4 : w.heap.size < w4.heap.size := U.lt
  have hv4 := V.lt
  cases hl : lsF (Kd : Int) (b.drop (9 + M)) with
  | none =>
    rw [hl] at hC hKcl
    have hr := Lib.hid (crd_nols hKcl)
    replace hl := Lib.hid hl
    replace hKcl := Lib.hid hKcl
    obtain ⟨q0, q1, q2, q3, q4, q5, i0', i1', i2', i3', i4', i5'⟩ := V.six
    go_wp2_with fail
    refine hC.mono ?_
    clear hC q0 q1 q2 q3 q4 q5 i0' i1' i2' i3' i4' i5'
    rintro e w5 ⟨Al, ml, cl, hml, rfl, R, b5⟩
    try simp only [Option.isSome_none]
    replace U := (U.under b5).far (a := ⟨kv, 5, none⟩) hkrv (.slice Al ml cl)
    replace bb := (bb.trans (b5.mono bb.size)).setCell (p := ⟨kv, 5, none⟩) hwkv (.slice Al ml cl)
    replace V := V.under b5
    clear b5 R
    obtain ⟨q0, q1, q2, q3, q4, q5, i0', i1', i2', i3', i4', i5'⟩ := V.six
    obtain ⟨z0, z1, z2, z3, z4, z5, u0, u1, u2, u3, u4, u5⟩ := U.six
    go_wp2
    try simp only [Exit.inBlock, Exit.then]
    exact ret_blk2 rfl rfl ((((((U.set 0 _).set 1 _).set 2 _).set 3 _).set 4 _).set 5 _) Try.underlying37 (by kernel_rfl) rfl (ChPost.no hr.out ((((((bb.setCell (p := ⟨w.heap.size, 0, none⟩) (Nat.le_refl _) _).setCell (p := ⟨w.heap.size, 1, none⟩) (Nat.le_refl _) _).setCell (p := ⟨w.heap.size, 2, none⟩) (Nat.le_refl _) _).setCell (p := ⟨w.heap.size, 3, none⟩) (Nat.le_refl _) _).setCell (p := ⟨w.heap.size, 4, none⟩) (Nat.le_refl _) _).setCell (p := ⟨w.heap.size, 5, none⟩) (Nat.le_refl _) _))
  | some l =>
    rw [hl] at hC hKcl
    have hlal := cls_la hKcl
    replace hl := Lib.hid hl
    replace hKcl := Lib.hid hKcl
    replace hlal := Lib.hid hlal
    obtain ⟨q0, q1, q2, q3, q4, q5, i0', i1', i2', i3', i4', i5'⟩ := V.six
    go_wp2_with fail
    refine hC.mono ?_
    clear hC q0 q1 q2 q3 q4 q5 i0' i1' i2' i3' i4' i5'
    rintro e w5 ⟨Al, ml, cl, hml, rfl, R, b5⟩
    try simp only [Option.isSome_some]
    replace U := (U.under b5).far (a := ⟨kv, 5, none⟩) hkrv (.slice Al ml cl)
    replace bb := (bb.trans (b5.mono bb.size)).setCell (p := ⟨kv, 5, none⟩) hwkv (.slice Al ml cl)
    replace R := R.far (a := ⟨kv, 5, none⟩) (by show ¬ w4.heap.size ≤ kv; omega) (.slice Al ml cl)
    replace s9 := (s9.below b5).farz (a := ⟨kv, 5, none⟩) hne9 (.slice Al ml cl)
    have V5 := V.under b5
    have V6 := V5.set 5 (.slice Al ml cl)
    simp only [List.setIfInBounds_toArray, List.set_cons_zero, List.set_cons_succ] at V6
    clear b5 V
    obtain ⟨q0, q1, q2, q3, q4, q5, i0', i1', i2', i3', i4', i5'⟩ := V5.six
    go_upto_region 9 with (fail)
    clear q0 q1 q2 q3 q4 q5 i0' i1' i2' i3' i4' i5' V5
    generalize w5.setCell ⟨kv, 5, none⟩ (.slice Al ml cl) = w6 at *
    have hXl := Lib.hid (hX0.out l)
    have hokc : (cX b l).ok = cchk Kd L N I M l := by
      unfold Ch.ok
      rw [hXl.out.1, hXl.out.2.1, hXl.out.2.2.1, hXl.out.2.2.2.1, hXl.out.2.2.2.2.1, s9.len8, hXl.out.2.2.2.2.2]
    have hC := chCheck_any Kd L N I Ad M cd Al ml cl l w6 R (by omega) hlal.out
    obtain ⟨q0, q1, q2, q3, q4, q5, _⟩ := V6.six
    cases hck : cchk Kd L N I M l
    · rw [hck] at hC hokc
      have hr := Lib.hid (crd_bad hKcl.out (by rw [hokc]; simp))
      replace hck := Lib.hid hck
      replace hokc := Lib.hid hokc
      go_wp2_with fail
      refine hC.mono ?_
      clear hC q0 q1 q2 q3 q4 q5
      rintro e w7 ⟨rfl, b7⟩
      replace U := U.under b7
      replace bb := bb.trans (b7.mono bb.size)
      clear b7 V6 R s9
      obtain ⟨z0, z1, z2, z3, z4, z5, u0, u1, u2, u3, u4, u5⟩ := U.six
      go_wp2
      try simp only [Exit.inBlock, Exit.then]
      exact ret_blk2 rfl rfl ((((((U.set 0 _).set 1 _).set 2 _).set 3 _).set 4 _).set 5 _) Try.underlying37 (by kernel_rfl) rfl (ChPost.no hr.out ((((((bb.setCell (p := ⟨w.heap.size, 0, none⟩) (Nat.le_refl _) _).setCell (p := ⟨w.heap.size, 1, none⟩) (Nat.le_refl _) _).setCell (p := ⟨w.heap.size, 2, none⟩) (Nat.le_refl _) _).setCell (p := ⟨w.heap.size, 3, none⟩) (Nat.le_refl _) _).setCell (p := ⟨w.heap.size, 4, none⟩) (Nat.le_refl _) _).setCell (p := ⟨w.heap.size, 5, none⟩) (Nat.le_refl _) _))
    · rw [hck] at hC hokc
      have hr := Lib.hid (hyes.out l (by omega) (by omega) hKcl.out hokc)
      replace hck := Lib.hid hck
      replace hokc := Lib.hid hokc
      go_wp2_with fail
      refine hC.mono ?_
      clear hC q0 q1 q2 q3 q4 q5
      rintro e w7 ⟨rfl, b7⟩
      replace U := U.under b7
      replace bb := bb.trans (b7.mono bb.size)
      replace V6 := V6.under b7
      replace R := R.below b7
      replace s9 := s9.below b7
      clear b7
      obtain ⟨q0, q1, q2, q3, q4, q5, _⟩ := V6.six
      obtain ⟨z0, z1, z2, z3, z4, z5, u0, u1, u2, u3, u4, u5⟩ := U.six
      go_wp2
      try simp only [Exit.inBlock, Exit.then]
      exact ret_blk2 rfl rfl ((((((U.set 0 _).set 1 _).set 2 _).set 3 _).set 4 _).set 5 _) Try.underlying37 (by kernel_rfl) rfl (ChPost.yes hr.out hXl.out.1 hXl.out.2.1 hXl.out.2.2.1 hXl.out.2.2.2.1 (by rw [hXl.out.2.2.2.2.1]; exact ((((((s9.farz (a := ⟨w.heap.size, 0, none⟩) hne0 _).farz (a := ⟨w.heap.size, 1, none⟩) hne0 _).farz (a := ⟨w.heap.size, 2, none⟩) hne0 _).farz (a := ⟨w.heap.size, 3, none⟩) hne0 _).farz (a := ⟨w.heap.size, 4, none⟩) hne0 _).farz (a := ⟨w.heap.size, 5, none⟩) hne0 _)) (((((((R.far (a := ⟨w.heap.size, 0, none⟩) (by show ¬ w4.heap.size ≤ w.heap.size; omega) _).far (a := ⟨w.heap.size, 1, none⟩) (by show ¬ w4.heap.size ≤ w.heap.size; omega) _).far (a := ⟨w.heap.size, 2, none⟩) (by show ¬ w4.heap.size ≤ w.heap.size; omega) _).far (a := ⟨w.heap.size, 3, none⟩) (by show ¬ w4.heap.size ≤ w.heap.size; omega) _).far (a := ⟨w.heap.size, 4, none⟩) (by show ¬ w4.heap.size ≤ w.heap.size; omega) _).far (a := ⟨w.heap.size, 5, none⟩) (by show ¬ w4.heap.size ≤ w.heap.size; omega) _).imp (fun _ _ _ => trivial)) ((((((bb.setCell (p := ⟨w.heap.size, 0, none⟩) (Nat.le_refl _) _).setCell (p := ⟨w.heap.size, 1, none⟩) (Nat.le_refl _) _).setCell (p := ⟨w.heap.size, 2, none⟩) (Nat.le_refl _) _).setCell (p := ⟨w.heap.size, 3, none⟩) (Nat.le_refl _) _).setCell (p := ⟨w.heap.size, 4, none⟩) (Nat.le_refl _) _).setCell (p := ⟨w.heap.size, 5, none⟩) (Nat.le_refl _) _))
end Go.Proofs.Ytbhohjbgbachhaa
