/-
  Merged: XExt7 XExt8 XExt9.
-/
import Derived.Test.YtbhohjbgbachhaaExA
import Derived.Test.YtbhohjbgbachhaaExtRd
import Derived.Test.YtbhohjbgbachhaaLeRef
import Derived.Test.YtbhohjbgbachhaaGoto
/-
  Contract of first of package extent (written by gen_ext7.py).
-/
namespace Go.Wag
open Go.RowKit
set_option linter.unusedVariables false
theorem results_cell_tmp2x {fn : Func} {p u v : Tmp} {ty : TypeId} (h : fn.results = #[.cell p ty, .tmp u, .tmp v]) (tmps : Array Value) (P : Program) (w : World) :
    (results fn tmps).run P w =
      ((asAddr (tmps.getD p undef)).run P w).andThen fun a w₁ => ((loadVar ty a).run P w₁).andThen fun x w₂ => .ok (.tuple #[x, tmps.getD u undef, tmps.getD v undef]) w₂ := by
  simp only [results, h]
  simp [Sem.run_bind, Result.andThen]
theorem xchk_short {La N Kd G n M en : Nat} (hM : M = if Kd = 2 then 32 * N else 0) (he : en = 7 + M) (h7 : 7 ≤ n) (h : n < en) : xchk (La : Int) (N : Int) (Kd : Int) (G : Int) ((n - 7 : Nat) : Int) = false := by
  cases hx : xchk (La : Int) (N : Int) (Kd : Int) (G : Int) ((n - 7 : Nat) : Int)
  · rfl
  · exfalso
    have := xchk_all hx
    by_cases hk : Kd = 2
    · rw [if_pos hk] at hM
      have := this.2.2.2.2.2.2.2.1 (by omega)
      omega
    · rw [if_neg hk] at hM
      omega
theorem en_int {en M : Nat} (h : en = 7 + M) : 7 + (M : Int) = (en : Int) := by omega
theorem en_lt {en M n : Nat} (h : en = 7 + M) (hf : n < en) : (n : Int) < 7 + (M : Int) := by omega
theorem en_nlt {en M n : Nat} (h : en = 7 + M) (hf : ¬ n < en) : ¬ (n : Int) < 7 + (M : Int) := by omega
theorem en_7 {en M : Nat} (h : en = 7 + M) : 7 ≤ en := by omega
theorem en_sub {en : Nat} (h : 7 ≤ en) : 7 + (en - 7) = en := by omega
theorem la_max {La : Nat} (h : La < 256) : (La : Int) ≤ 9223372036854775807 := by omega
theorem fst_short {b : List UInt8} {n M en : Nat} (HN : b.length = n) (hM' : hM b = M) (h : en = 7 + M) (hf : n < en) : fstX b = none := fst_no (by rw [HN, hM']; omega)
theorem hX_full {b : List UInt8} {n M en : Nat} (HN : b.length = n) (hM' : hM b = M) (h : en = 7 + M) (hf : ¬ n < en) : (hX b).l.length = en - 7 := by
  rw [hX_len (by rw [HN, hM']; omega), hM', h]
  omega
theorem fst_full {b : List UInt8} {n M en : Nat} (HN : b.length = n) (hM' : hM b = M) (h : en = 7 + M) (hf : ¬ n < en) (ho : (hX b).ok = true) : fstX b = some (hX b, b.drop (7 + hM b)) := fst_yes ⟨by rw [HN]; omega, by rw [HN, hM']; omega, ho⟩
theorem dat_full {b : List UInt8} {M en : Nat} (hM' : hM b = M) (h : en = 7 + M) : (b.take en).drop 7 = (hX b).l := by
  rw [h, ← hM', List.drop_take]
  show _ = (b.drop 7).take (hM b)
  congr 1
  omega
theorem min_end (n M : Nat) : ∃ en : Nat, (if (n : Int) < 7 + (M : Int) then (n : Int) else 7 + (M : Int)) = (en : Int) ∧ (7 ≤ n → 7 ≤ en) ∧ en ≤ n ∧ en ≤ 7 + M ∧ (7 + M ≤ n → en = 7 + M) ∧ (¬ 7 + M ≤ n → en < 7 + M) := by
  by_cases h : n < 7 + M
  · exact ⟨n, by rw [if_pos (by omega)], by omega, by omega, by omega, by omega, by omega⟩
  · exact ⟨7 + M, by rw [if_neg (by omega)]; omega, by omega, by omega, by omega, by omega, by omega⟩
theorem wrap7 {M : Nat} (h : M ≤ 8160) : wrap64 (7 + (M : Int)) = 7 + (M : Int) := by unfold wrap64; omega
/-- Leaving with a struct that lives in a block, and two values beside it. -/
theorem ret_blk3x {P : Program} {w : World} {fn : Func} {R : Ending → World → Prop} {tmps : Array Value} {p u x : Tmp} {ty t : TypeId} {g : Nat} {cs : Array Value} {fs : Array Field} {v y : Value} (hr : fn.results = #[.cell p ty, .tmp u, .tmp x]) (hp : tmps.getD p undef = .pointer (some ⟨g, 0, none⟩))
    (hg : Blk w g cs t) (hu : P.underlying ty = some (.struct fs)) (hi : (P.info? ty).map (·.size) = some cs.size) (hv : tmps.getD u undef = v) (hy : tmps.getD x undef = y) (hR : R (.returned (.tuple #[.agg cs, v, y])) w) : bodyPost P fn R .ret ⟨tmps, []⟩ w := by
  refine bodyPost_ret ?_ rfl hR
  rw [results_cell_tmp2x hr, hp, hv, hy]
  simp [asAddr, run_loadVar_row w g t ty cs (0, 0) (.struct fs) hg hu rfl hi, Result.andThen]
/-- Four numbers that a call has made. -/
theorem nums4x {e : TypeId} {w w' : World} {A : Option Addr} {n c : Nat} {x0 x1 x2 x3 : UInt64} (h : Nw e w w' A n c ([x0, x1, x2, x3].map v64)) : ∃ g, A = some ⟨g, 0, none⟩ ∧ n = 4 ∧ 4 ≤ c ∧ c ≤ 9223372036854775807 ∧ w.heap.size ≤ g ∧ g < w'.heap.size ∧
    w'.cell? ⟨g, 0, none⟩ = some (.int .u64 (x0.toNat : Int)) ∧ w'.cell? ⟨g, 1, none⟩ = some (.int .u64 (x1.toNat : Int)) ∧ w'.cell? ⟨g, 2, none⟩ = some (.int .u64 (x2.toNat : Int)) ∧ w'.cell? ⟨g, 3, none⟩ = some (.int .u64 (x3.toNat : Int)) := by
  have hn : 4 = n := by simpa using h.1
  subst hn
  have h' := h
  rcases h.2 with ⟨_, h0⟩ | ⟨g, cap, cur, hv, hb, hg, hnc, hm, _⟩
  · cases h0
  · obtain ⟨rfl, rfl⟩ : A = some ⟨g, 0, none⟩ ∧ c = cap := by simpa using hv
    have hc := World.ownsRow.cells (g := g) h' rfl
    have e : ∀ j, ((⟨g, 0, none⟩ : Addr).add j) = ⟨g, j, none⟩ := fun j => by unfold Addr.add; split <;> simp_all
    refine ⟨g, rfl, rfl, hnc, by simpa [maxLen] using hm, hb, (Array.getElem?_eq_some_iff.1 hg).1, ?_, ?_, ?_, ?_⟩
    · rw [← e]; exact hc 0 _ rfl
    · rw [← e]; exact hc 1 _ rfl
    · rw [← e]; exact hc 2 _ rfl
    · rw [← e]; exact hc 3 _ rfl
theorem nums1x {e : TypeId} {w w' : World} {A : Option Addr} {n c : Nat} {x0 : UInt64} (h : Nw e w w' A n c ([x0].map v64)) : ∃ g, A = some ⟨g, 0, none⟩ ∧ n = 1 ∧ 1 ≤ c ∧ c ≤ 9223372036854775807 ∧ w.heap.size ≤ g ∧ g < w'.heap.size ∧
    w'.cell? ⟨g, 0, none⟩ = some (.int .u64 (x0.toNat : Int)) := by
  have hn : 1 = n := by simpa using h.1
  subst hn
  have h' := h
  rcases h.2 with ⟨_, h0⟩ | ⟨g, cap, cur, hv, hb, hg, hnc, hm, _⟩
  · cases h0
  · obtain ⟨rfl, rfl⟩ : A = some ⟨g, 0, none⟩ ∧ c = cap := by simpa using hv
    have hc := World.ownsRow.cells (g := g) h' rfl
    have e : ∀ j, ((⟨g, 0, none⟩ : Addr).add j) = ⟨g, j, none⟩ := fun j => by unfold Addr.add; split <;> simp_all
    refine ⟨g, rfl, rfl, hnc, by simpa [maxLen] using hm, hb, (Array.getElem?_eq_some_iff.1 hg).1, ?_⟩
    rw [← e]; exact hc 0 _ rfl
end Go.Wag
namespace Go.Proofs.Ytbhohjbgbachhaa
open Go.RowKit Go.Wag
set_option linter.unusedVariables false
set_option maxRecDepth 20000
/-- What first answers: an extent in memory of its own, and the rest of what came in; or none. -/
def FstPost (w : World) (A : Option Addr) (n c : Nat) (r : Option (Xp × List UInt8)) (e : Ending) (w' : World) : Prop :=
  match r with
  | none => e = .returned (.tuple #[.agg #[.int .i64 0, .int .i64 0, .int .i64 0, .int .i64 0, .slice none 0 0], .slice none 0 0, .bool false]) ∧ Below w.heap.size w w'
  | some y => ∃ A' c', e = .returned (.tuple #[.agg #[.int .i64 y.1.la, .int .i64 y.1.n, .int .i64 y.1.k, .int .i64 y.1.g, .slice A' y.1.l.length c'], .slice (cutA A c (7 + y.1.l.length)) (n - (7 + y.1.l.length)) (c - (7 + y.1.l.length)), .bool true]) ∧ Nw 5 w w' A' y.1.l.length c' (y.1.l.map v8) ∧ Below w.heap.size w w'
theorem FstPost.mkNo {w w' : World} {A : Option Addr} {n c : Nat} {r : Option (Xp × List UInt8)} (hr : r = none) (hb : Below w.heap.size w w') : FstPost w A n c r (.returned (.tuple #[.agg #[.int .i64 0, .int .i64 0, .int .i64 0, .int .i64 0, .slice none 0 0], .slice none 0 0, .bool false])) w' := by
  subst hr
  exact ⟨rfl, hb⟩
theorem FstPost.mkYes {w w' : World} {A : Option Addr} {n c m : Nat} {r : Option (Xp × List UInt8)} {x : Xp} {t : List UInt8} {A' : Option Addr} {c' d : Nat} {la n1 k g : Int} (hr : r = some (x, t)) (h1 : x.la = la) (h2 : x.n = n1) (h3 : x.k = k) (h4 : x.g = g) (hd : x.l.length = d) (hm : 7 + d = m) (hN : Nw 5 w w' A' d c' (x.l.map v8)) (hb : Below w.heap.size w w') :
    FstPost w A n c r (.returned (.tuple #[.agg #[.int .i64 la, .int .i64 n1, .int .i64 k, .int .i64 g, .slice A' d c'], .slice (cutA A c m) (n - m) (c - m), .bool true])) w' := by
  subst hr h1 h2 h3 h4 hd hm
  exact ⟨A', c', rfl, hN, hb⟩
theorem FstPost.ok {P : Program} {f : FuncId} {args : Array Value} {w : World} {A : Option Addr} {n c : Nat} {r : Option (Xp × List UInt8)} {y : Xp × List UInt8} (h : Calls P f args w (FstPost w A n c r)) (hr : r = some y) : Calls P f args w (FstPost w A n c (some y)) := by
  subst hr
  exact h
theorem FstPost.no {P : Program} {f : FuncId} {args : Array Value} {w : World} {A : Option Addr} {n c : Nat} {r : Option (Xp × List UInt8)} (h : Calls P f args w (FstPost w A n c r)) (hr : r = none) : Calls P f args w (FstPost w A n c none) := by
  subst hr
  exact h
set_option maxHeartbeats 4000000 in
theorem eFirst_any (A : Option Addr) (n c : Nat) (b : List UInt8) (w : World) (h : Sl w A n c (b.map v8)) (hn : n ≤ 10000000000000) :
    Calls Try.prog 96 #[.slice A n c] w (FstPost w A n c (fstX b)) := by
  have HN : Hid (b.length = n) := h.len8
  have hcap := h.cap
  have hbig := h.big
  have bb := (Below.refl w.heap.size w).alloc (Nat.le_refl _) (.cells #[.int .i64 0, .int .i64 0, .int .i64 0, .int .i64 0, .slice none 0 0] 50)
  have U := Blk.new w #[.int .i64 0, .int .i64 0, .int .i64 0, .int .i64 0, .slice none 0 0] 50
  have HU := h.alloc (.cells #[.int .i64 0, .int .i64 0, .int .i64 0, .int .i64 0, .slice none 0 0] 50)
  by_cases h7 : (n : Int) < 7
  · have hr : Hid (fstX b = none) := fst_no (by rw [HN.out]; omega)
    go_enter Try.func96, Try.ntmps96
    go_wp2_with fail
    refine (NumsErr.no (Unpack_any ⟨#[98, 98, 98, 119]⟩ A n c b _ HU (by decide)) (xunpack_short (by rw [HN.out]; omega))).mono ?_
    rintro e w2 ⟨A2, n2, c2, rfl, s2, f2, b2⟩
    replace U := U.under b2
    replace bb := bb.trans (b2.mono bb.size)
    clear b2 s2 f2
    obtain ⟨z0, z1, z2, z3, z4, u0, u1, u2, u3, u4⟩ := U.five
    go_wp2
    try simp only [Exit.inBlock, Exit.then]
    exact ret_blk3x rfl rfl (((((U.set 0 (_)).set 1 (_)).set 2 (_)).set 3 (_)).set 4 (_)) Try.underlying50 (by kernel_rfl) rfl rfl (FstPost.mkNo hr.out (((((bb.setCell (p := ⟨w.heap.size, 0, none⟩) (Nat.le_refl _) (_)).setCell (p := ⟨w.heap.size, 1, none⟩) (Nat.le_refl _) (_)).setCell (p := ⟨w.heap.size, 2, none⟩) (Nat.le_refl _) (_)).setCell (p := ⟨w.heap.size, 3, none⟩) (Nat.le_refl _) (_)).setCell (p := ⟨w.heap.size, 4, none⟩) (Nat.le_refl _) (_)))
  have HU7 := HU.upto (m := 7) (by omega)
  rw [← List.map_take] at HU7
  have h7n : (7 : Int) ≤ n := by omega
  go_enter Try.func96, Try.ntmps96
  go_wp2_with fail
  refine (NumsErr.ok (Unpack_any ⟨#[98, 98, 98, 119]⟩ A 7 c (b.take 7) _ HU7 (by decide)) (xunpack_head (by rw [HN.out]; omega))).mono ?_
  rintro e w2 ⟨A2, n2, c2, rfl, s2, f2, b2⟩
  obtain ⟨g, rfl, rfl, hc4, hcb, hg0, hg1, g0, g1, g2, g3⟩ := nums4x f2
  have lLa := hLa_lt b
  have lN := hN_lt b
  have lK := hK_lt b
  have lG := hG_lt b
  rw [xnat64 (Nat.lt_of_lt_of_le lLa (by decide))] at g0
  rw [xnat64 (Nat.lt_of_lt_of_le lN (by decide))] at g1
  rw [xnat64 (Nat.lt_of_lt_of_le lK (by decide))] at g2
  rw [xnat64 (Nat.lt_of_lt_of_le lG (by decide))] at g3
  clear s2 f2 HU HU7
  replace U := U.under b2
  replace bb := bb.trans (b2.mono bb.size)
  replace hg0 : w.heap.size + 1 ≤ g := by simpa using hg0
  clear b2
  have hX0 : Hid ((hX b).la = (hLa b : Int) ∧ (hX b).n = (hN b : Int) ∧ (hX b).k = (hK b : Int) ∧ (hX b).g = (hG b : Int)) := ⟨rfl, rfl, rfl, rfl⟩
  have hMd : Hid (hM b = if hK b = 2 then 32 * hN b else 0) := rfl
  obtain ⟨La, HL⟩ : ∃ M, Hid (hLa b = M) := ⟨_, rfl⟩
  obtain ⟨N, HNn⟩ : ∃ M, Hid (hN b = M) := ⟨_, rfl⟩
  obtain ⟨Kd, HK⟩ : ∃ M, Hid (hK b = M) := ⟨_, rfl⟩
  obtain ⟨G, HG⟩ : ∃ M, Hid (hG b = M) := ⟨_, rfl⟩
  rw [HL.out] at g0 lLa
  rw [HNn.out] at g1 lN
  rw [HK.out] at g2 lK
  rw [HG.out] at g3 lG
  replace hX0 := hX0.out
  rw [HL.out, HNn.out, HK.out, HG.out] at hX0
  replace hX0 := Lib.hid hX0
  replace hMd := hMd.out
  rw [HNn.out, HK.out] at hMd
  clear HL HNn HK HG
  have j0 : wrap64 (La : Int) = La := by unfold wrap64; omega
  have j1 : wrap64 (N : Int) = N := by unfold wrap64; omega
  have j2 : wrap64 (Kd : Int) = Kd := by unfold wrap64; omega
  have j3 : wrap64 (G : Int) = G := by unfold wrap64; omega
  have i0 : IntKind.i64.wrap (La : Int) = La := (IntWalk.i64_left _).trans j0
  have i1 : IntKind.i64.wrap (N : Int) = N := (IntWalk.i64_left _).trans j1
  have i2 : IntKind.i64.wrap (Kd : Int) = Kd := (IntWalk.i64_left _).trans j2
  have i3 : IntKind.i64.wrap (G : Int) = G := (IntWalk.i64_left _).trans j3
  clear j0 j1 j2 j3
  obtain ⟨M, hMM⟩ : ∃ M, hM b = M := ⟨_, rfl⟩
  have hdb : dbF (Kd : Int) (N : Int) = (M : Int) := by
    rw [← hMM, hMd]
    unfold dbF
    by_cases hk : Kd = 2
    · rw [if_pos (by omega), if_pos hk]
      unfold wrap64
      omega
    · rw [if_neg (by omega), if_neg hk]
      rfl
  have hMl : M ≤ 8160 := by rw [← hMM]; exact hM_le b
  rw [hMM] at hMd
  replace hMM := Lib.hid hMM
  replace hMd := Lib.hid hMd
  go_wp2_with fail
  refine wp_region_held_drew (S := fun w' => Below w2.heap.size w2 w') (by kernel_rfl) (Below.refl _ _).drew (fun hHeld => ?_)
  try dsimp only at hHeld
  have bd : Below w2.heap.size w2 w2.drew := (Below.refl w2.heap.size w2).drew
  generalize w2.drew = wd at *
  try simp only [Act.put, List.setIfInBounds_toArray, List.set_cons_zero, List.set_cons_succ]
  refine wpAnyH_take (i := 0) (v := ?_) (by simp only [List.getElem?_toArray, List.getElem?_cons_zero]; rfl) (by kernel_rfl) (by kernel_rfl) (by kernel_rfl) (by intro _ _ _ h; exact h) (Or.inl ⟨by rfl, ?_⟩) hHeld ?_
  rotate_left 1
  · intro wq hSw
    try dsimp only at hSw
    go_simp
    try (with_reducible rfl)
  try simp only [Act.put, List.setIfInBounds_toArray, List.set_cons_zero, List.set_cons_succ]
  refine wpAnyH_take (i := 1) (v := ?_) (by simp only [List.getElem?_toArray, List.getElem?_cons_succ, List.getElem?_cons_zero]; rfl) (by kernel_rfl) (by kernel_rfl) (by kernel_rfl) (by intro _ _ _ h; exact h) (Or.inl ⟨by rfl, ?_⟩) hHeld ?_
  rotate_left 1
  · intro wq hSw
    try dsimp only at hSw
    go_simp
    try (with_reducible rfl)
  try simp only [Act.put, List.setIfInBounds_toArray, List.set_cons_zero, List.set_cons_succ]
  refine wpAnyH_take (i := 2) (v := ?_) (by simp only [List.getElem?_toArray, List.getElem?_cons_succ, List.getElem?_cons_zero]; rfl) (by kernel_rfl) (by kernel_rfl) (by kernel_rfl) (by intro _ _ _ h; exact h) (Or.inl ⟨by rfl, ?_⟩) hHeld ?_
  rotate_left 1
  · intro wq hSw
    try dsimp only at hSw
    have x := (hSw.cell (p := ⟨g, 0, none⟩) hg1).trans g0
    go_simp
    try (with_reducible rfl)
  try simp only [Act.put, List.setIfInBounds_toArray, List.set_cons_zero, List.set_cons_succ]
  refine wpAnyH_take (i := 3) (v := ?_) (by simp only [List.getElem?_toArray, List.getElem?_cons_succ, List.getElem?_cons_zero]; rfl) (by kernel_rfl) (by kernel_rfl) (by kernel_rfl) (by intro _ _ _ h; exact h) (Or.inl ⟨by rfl, ?_⟩) hHeld ?_
  rotate_left 1
  · intro wq hSw
    try dsimp only at hSw
    go_simp
    try (with_reducible rfl)
  try simp only [Act.put, List.setIfInBounds_toArray, List.set_cons_zero, List.set_cons_succ]
  refine wpAnyH_take (i := 4) (v := ?_) (by simp only [List.getElem?_toArray, List.getElem?_cons_succ, List.getElem?_cons_zero]; rfl) (by kernel_rfl) (by kernel_rfl) (by kernel_rfl) (by intro _ _ _ h; exact h) (Or.inl ⟨by rfl, ?_⟩) hHeld ?_
  rotate_left 1
  · intro wq hSw
    try dsimp only at hSw
    go_simp
    try (with_reducible rfl)
  try simp only [Act.put, List.setIfInBounds_toArray, List.set_cons_zero, List.set_cons_succ]
  refine wpAnyH_take (i := 5) (v := ?_) (by simp only [List.getElem?_toArray, List.getElem?_cons_succ, List.getElem?_cons_zero]; rfl) (by kernel_rfl) (by kernel_rfl) (by kernel_rfl) (by intro _ _ _ h; exact h) (Or.inl ⟨by rfl, ?_⟩) hHeld ?_
  rotate_left 1
  · intro wq hSw
    try dsimp only at hSw
    go_simp
    try (with_reducible rfl)
  try simp only [Act.put, List.setIfInBounds_toArray, List.set_cons_zero, List.set_cons_succ]
  refine wpAnyH_take (i := 6) (v := ?_) (by simp only [List.getElem?_toArray, List.getElem?_cons_succ, List.getElem?_cons_zero]; rfl) (by kernel_rfl) (by kernel_rfl) (by kernel_rfl) (by intro _ _ _ h; exact h) (Or.inl ⟨by rfl, ?_⟩) hHeld ?_
  rotate_left 1
  · intro wq hSw
    try dsimp only at hSw
    have x := (hSw.cell (p := ⟨g, 1, none⟩) hg1).trans g1
    go_simp
    try (with_reducible rfl)
  try simp only [Act.put, List.setIfInBounds_toArray, List.set_cons_zero, List.set_cons_succ]
  refine wpAnyH_take (i := 7) (v := ?_) (by simp only [List.getElem?_toArray, List.getElem?_cons_succ, List.getElem?_cons_zero]; rfl) (by kernel_rfl) (by kernel_rfl) (by kernel_rfl) (by intro _ _ _ h; exact h) (Or.inl ⟨by rfl, ?_⟩) hHeld ?_
  rotate_left 1
  · intro wq hSw
    try dsimp only at hSw
    go_simp
    try (with_reducible rfl)
  try simp only [Act.put, List.setIfInBounds_toArray, List.set_cons_zero, List.set_cons_succ]
  refine wpAnyH_take (i := 8) (v := ?_) (by simp only [List.getElem?_toArray, List.getElem?_cons_succ, List.getElem?_cons_zero]; rfl) (by kernel_rfl) (by kernel_rfl) (by kernel_rfl) (by intro _ _ _ h; exact h) (Or.inl ⟨by rfl, ?_⟩) hHeld ?_
  rotate_left 1
  · intro wq hSw
    try dsimp only at hSw
    go_simp
    try (with_reducible rfl)
  try simp only [Act.put, List.setIfInBounds_toArray, List.set_cons_zero, List.set_cons_succ]
  refine wpAnyH_take (i := 9) (v := ?_) (by simp only [List.getElem?_toArray, List.getElem?_cons_succ, List.getElem?_cons_zero]; rfl) (by kernel_rfl) (by kernel_rfl) (by kernel_rfl) (by intro _ _ _ h; exact h) (Or.inl ⟨by rfl, ?_⟩) hHeld ?_
  rotate_left 1
  · intro wq hSw
    try dsimp only at hSw
    go_simp
    try (with_reducible rfl)
  try simp only [Act.put, List.setIfInBounds_toArray, List.set_cons_zero, List.set_cons_succ]
  refine wpAnyH_take (i := 10) (v := ?_) (by simp only [List.getElem?_toArray, List.getElem?_cons_succ, List.getElem?_cons_zero]; rfl) (by kernel_rfl) (by kernel_rfl) (by kernel_rfl) (by intro _ _ _ h; exact h) (Or.inl ⟨by rfl, ?_⟩) hHeld ?_
  rotate_left 1
  · intro wq hSw
    try dsimp only at hSw
    have x := (hSw.cell (p := ⟨g, 2, none⟩) hg1).trans g2
    go_simp
    try (with_reducible rfl)
  try simp only [Act.put, List.setIfInBounds_toArray, List.set_cons_zero, List.set_cons_succ]
  refine wpAnyH_take (i := 11) (v := ?_) (by simp only [List.getElem?_toArray, List.getElem?_cons_succ, List.getElem?_cons_zero]; rfl) (by kernel_rfl) (by kernel_rfl) (by kernel_rfl) (by intro _ _ _ h; exact h) (Or.inl ⟨by rfl, ?_⟩) hHeld ?_
  rotate_left 1
  · intro wq hSw
    try dsimp only at hSw
    go_simp
    try (with_reducible rfl)
  try simp only [Act.put, List.setIfInBounds_toArray, List.set_cons_zero, List.set_cons_succ]
  refine wpAnyH_take (i := 12) (v := ?_) (by simp only [List.getElem?_toArray, List.getElem?_cons_succ, List.getElem?_cons_zero]; rfl) (by kernel_rfl) (by kernel_rfl) (by kernel_rfl) (by intro _ _ _ h; exact h) (Or.inl ⟨by rfl, ?_⟩) hHeld ?_
  rotate_left 1
  · intro wq hSw
    try dsimp only at hSw
    go_simp
    try (with_reducible rfl)
  try simp only [Act.put, List.setIfInBounds_toArray, List.set_cons_zero, List.set_cons_succ]
  refine wpAnyH_take (i := 13) (v := ?_) (by simp only [List.getElem?_toArray, List.getElem?_cons_succ, List.getElem?_cons_zero]; rfl) (by kernel_rfl) (by kernel_rfl) (by kernel_rfl) (by intro _ _ _ h; exact h) (Or.inl ⟨by rfl, ?_⟩) hHeld ?_
  rotate_left 1
  · intro wq hSw
    try dsimp only at hSw
    go_simp
    try (with_reducible rfl)
  try simp only [Act.put, List.setIfInBounds_toArray, List.set_cons_zero, List.set_cons_succ]
  refine wpAnyH_take (i := 14) (v := ?_) (by simp only [List.getElem?_toArray, List.getElem?_cons_succ, List.getElem?_cons_zero]; rfl) (by kernel_rfl) (by kernel_rfl) (by kernel_rfl) (by intro _ _ _ h; exact h) (Or.inl ⟨by rfl, ?_⟩) hHeld ?_
  rotate_left 1
  · intro wq hSw
    try dsimp only at hSw
    have x := (hSw.cell (p := ⟨g, 3, none⟩) hg1).trans g3
    go_simp
    try (with_reducible rfl)
  try simp only [Act.put, List.setIfInBounds_toArray, List.set_cons_zero, List.set_cons_succ]
  refine wpAnyH_take (i := 15) (v := ?_) (by simp only [List.getElem?_toArray, List.getElem?_cons_succ, List.getElem?_cons_zero]; rfl) (by kernel_rfl) (by kernel_rfl) (by kernel_rfl) (by intro _ _ _ h; exact h) (Or.inl ⟨by rfl, ?_⟩) hHeld ?_
  rotate_left 1
  · intro wq hSw
    try dsimp only at hSw
    go_simp
    try (with_reducible rfl)
  try simp only [Act.put, List.setIfInBounds_toArray, List.set_cons_zero, List.set_cons_succ]
  refine wpAnyH_take (i := 16) (v := ?_) (by simp only [List.getElem?_toArray, List.getElem?_cons_succ, List.getElem?_cons_zero]; rfl) (by kernel_rfl) (by kernel_rfl) (by kernel_rfl) (by intro _ _ _ h; exact h) (Or.inl ⟨by rfl, ?_⟩) hHeld ?_
  rotate_left 1
  · intro wq hSw
    try dsimp only at hSw
    go_simp
    try (with_reducible rfl)
  try simp only [Act.put, List.setIfInBounds_toArray, List.set_cons_zero, List.set_cons_succ]
  refine wpAnyH_ready (rs := [17]) (by kernel_rfl) (by simp) ?_
  refine AllReadyH.cons (by simp only [List.getElem?_toArray, List.getElem?_cons_succ, List.getElem?_cons_zero]; rfl) (fun K hK => ?_) AllReadyH.nil
  obtain ⟨kv, hkv⟩ : ∃ k, wd.heap.size = k := ⟨_, rfl⟩
  go_simp
  try simp only [hkv]
  have X := Blk.new wd #[.int .i64 0, .int .i64 0, .int .i64 0, .int .i64 0, .slice none 0 0] 50
  rw [hkv] at X
  have hcv : w2.heap.size ≤ kv := by rw [← hkv]; exact bd.size
  replace bd := bd.alloc bd.size (.cells #[.int .i64 0, .int .i64 0, .int .i64 0, .int .i64 0, .slice none 0 0] 50)
  clear hkv
  generalize wd.alloc (.cells #[.int .i64 0, .int .i64 0, .int .i64 0, .int .i64 0, .slice none 0 0] 50) = wu at *
  refine hK.out _ _ (bd) (fun hHeld => ?_)
  clear hK K
  try dsimp only at hHeld
  try simp only [Act.put, List.setIfInBounds_toArray, List.set_cons_zero, List.set_cons_succ]
  refine wpAnyH_ready (rs := [18]) (by kernel_rfl) (by simp) ?_
  refine AllReadyH.cons (by simp only [List.getElem?_toArray, List.getElem?_cons_succ, List.getElem?_cons_zero]; rfl) (fun K hK => ?_) AllReadyH.nil
  obtain ⟨z0, z1, z2, z3, z4, y0, y1, y2, y3, y4⟩ := X.five
  go_simp
  have X2 := (((((X.set 0 (.int .i64 (La : Int))).set 1 (.int .i64 (N : Int))).set 2 (.int .i64 (Kd : Int))).set 3 (.int .i64 (G : Int))).set 4 (.slice none 0 0))
  simp only [List.setIfInBounds_toArray, List.set_cons_zero, List.set_cons_succ] at X2
  have bd2 := (((((bd.setCell (p := ⟨kv, 0, none⟩) (hcv) (.int .i64 (La : Int))).setCell (p := ⟨kv, 1, none⟩) (hcv) (.int .i64 (N : Int))).setCell (p := ⟨kv, 2, none⟩) (hcv) (.int .i64 (Kd : Int))).setCell (p := ⟨kv, 3, none⟩) (hcv) (.int .i64 (G : Int))).setCell (p := ⟨kv, 4, none⟩) (hcv) (.slice none 0 0))
  clear z0 z1 z2 z3 z4 y0 y1 y2 y3 y4 X bd
  generalize (((((wu.setCell ⟨kv, 0, none⟩ (.int .i64 (La : Int))).setCell ⟨kv, 1, none⟩ (.int .i64 (N : Int))).setCell ⟨kv, 2, none⟩ (.int .i64 (Kd : Int))).setCell ⟨kv, 3, none⟩ (.int .i64 (G : Int))).setCell ⟨kv, 4, none⟩ (.slice none 0 0)) = wv at *
  refine hK.out _ _ (bd2) (fun hHeld => ?_)
  clear hK K
  try dsimp only at hHeld
  try simp only [Act.put, List.setIfInBounds_toArray, List.set_cons_zero, List.set_cons_succ]
  refine wpAnyH_done (by kernel_rfl) ?_ _
  have hwk : w.heap.size < kv := Nat.lt_of_lt_of_le U.lt hcv
  have hUk : w.heap.size ≠ kv := Nat.ne_of_lt hwk
  replace hwk := Nat.le_of_lt hwk
  replace U := U.under bd2
  replace bb := bb.trans (bd2.mono bb.size)
  clear bd2 g0 g1 g2 g3 i0 i1 i2 i3 hcv hc4 hcb hg0 hg1
  obtain ⟨x0', x1', x2', x3', x4', _⟩ := X2.five
  obtain ⟨en, hen⟩ : ∃ en : Nat, Hid (en = 7 + M) := ⟨_, rfl⟩
  have j0 : wrap64 (7 + (M : Int)) = (en : Int) := (wrap7 hMl).trans (en_int hen.out)
  have j1 : IntKind.i64.wrap (7 + (M : Int)) = (en : Int) := (IntWalk.i64_left _).trans j0
  replace hMl := Lib.hid hMl
  have heI : Hid (7 + (M : Int) = (en : Int)) := en_int hen.out
  by_cases hfit : n < en
  · skip
    have hc : (n : Int) < (en : Int) := Int.ofNat_lt.2 hfit
    go_wp2_with fail
    refine (eData_any (Kd : Int) (N : Int) wv).mono ?_
    rintro e w3 ⟨rfl, rfl⟩
    rw [hdb]
    go_upto_region 6 with (fail)
    have he7 : 7 ≤ n := Int.ofNat_le.1 h7n
    have hel : n ≤ n := Nat.le_refl _
    have hcut := fun W => run_cut2 (P := Try.prog) 35 5 un22 el22 sz5 A n c .i64 .i64 (7 : Int) ((n : Int)) 7 n rfl rfl he7 (Nat.le_trans hel hcap) W
    have HB := (h.below bb).cut he7 hel
    rw [← List.map_take, ← List.map_drop] at HB
    clear hdb hc j0 j1
    go_wp2_with fail
    refine (eCopied_any (cutA A c 7) (n - 7) (c - 7) _ w3 HB (Nat.le_trans (Nat.sub_le _ _) (Nat.le_trans hel hn))).mono ?_
    rintro e w4 ⟨A4, c4, rfl, N4, b4⟩
    have hfk : ∀ ad, A4 = some ad → ad.block ≠ kv := fun ad e => Nat.ne_of_gt (Nat.lt_of_lt_of_le X2.lt (N4.fr ad e))
    have hfU : ∀ ad, A4 = some ad → ad.block ≠ w.heap.size := fun ad e => Nat.ne_of_gt (Nat.lt_of_lt_of_le U.lt (N4.fr ad e))
    replace N4 : Nw 5 w w4 A4 (n - 7) c4 _ := Nw.mono (w1 := w3) N4 bb.size
    replace X2 := X2.under b4
    replace U := U.under b4
    replace bb := bb.trans (b4.mono bb.size)
    clear b4 HB hcut x0' x1' x2' x3' x4'
    obtain ⟨x0', x1', x2', x3', x4', f0, f1, f2, f3, f4⟩ := X2.five
    go_upto_region 7 with (fail)
    replace X2 := X2.set 4 (.slice A4 (n - 7) c4)
    simp only [List.setIfInBounds_toArray, List.set_cons_zero, List.set_cons_succ] at X2
    replace U := U.far (a := ⟨kv, 4, none⟩) hUk (.slice A4 (n - 7) c4)
    replace N4 := N4.far (a := ⟨kv, 4, none⟩) hfk (.slice A4 (n - 7) c4)
    replace bb := bb.setCell (p := ⟨kv, 4, none⟩) hwk (.slice A4 (n - 7) c4)
    generalize w4.setCell ⟨kv, 4, none⟩ (.slice A4 (n - 7) c4) = w5 at *
    clear x0' x1' x2' x3' x4' f0 f1 f2 f3 f4
    obtain ⟨x0', x1', x2', x3', x4', _⟩ := X2.five
    go_wp2_with fail
    refine (eCheck_any (La : Int) (N : Int) (Kd : Int) (G : Int) A4 (n - 7) c4 w5 (la_max lLa)).mono ?_
    rintro e w6 ⟨rfl, b6⟩
    replace X2 := X2.under b6
    replace U := U.under b6
    replace N4 := N4.below b6
    replace bb := bb.trans (b6.mono bb.size)
    clear b6 x0' x1' x2' x3' x4'
    have hx : xchk (La : Int) (N : Int) (Kd : Int) (G : Int) ((n - 7 : Nat) : Int) = false := xchk_short hMd.out hen.out he7 hfit
    rw [hx]
    have hr : Hid (fstX b = none) := fst_short HN.out hMM.out hen.out hfit
    obtain ⟨z0, z1, z2, z3, z4, u0, u1, u2, u3, u4⟩ := U.five
    go_wp2
    try simp only [Exit.inBlock, Exit.then]
    exact ret_blk3x rfl rfl (((((U.set 0 (_)).set 1 (_)).set 2 (_)).set 3 (_)).set 4 (_)) Try.underlying50 (by kernel_rfl) rfl rfl (FstPost.mkNo hr.out (((((bb.setCell (p := ⟨w.heap.size, 0, none⟩) (Nat.le_refl _) (_)).setCell (p := ⟨w.heap.size, 1, none⟩) (Nat.le_refl _) (_)).setCell (p := ⟨w.heap.size, 2, none⟩) (Nat.le_refl _) (_)).setCell (p := ⟨w.heap.size, 3, none⟩) (Nat.le_refl _) (_)).setCell (p := ⟨w.heap.size, 4, none⟩) (Nat.le_refl _) (_)))
  · skip
    have hc : ¬ (n : Int) < (en : Int) := fun hh => hfit (Int.ofNat_lt.1 hh)
    go_wp2_with fail
    refine (eData_any (Kd : Int) (N : Int) wv).mono ?_
    rintro e w3 ⟨rfl, rfl⟩
    rw [hdb]
    go_upto_region 6 with (fail)
    have he7 : 7 ≤ en := en_7 hen.out
    have hel : en ≤ n := Nat.le_of_not_lt hfit
    have hcut := fun W => run_cut2 (P := Try.prog) 35 5 un22 el22 sz5 A n c .i64 .i64 (7 : Int) ((en : Int)) 7 en rfl rfl he7 (Nat.le_trans hel hcap) W
    have HB := (h.below bb).cut he7 hel
    rw [← List.map_take, ← List.map_drop] at HB
    clear hdb hc j0 j1
    go_wp2_with fail
    refine (eCopied_any (cutA A c 7) (en - 7) (c - 7) _ w3 HB (Nat.le_trans (Nat.sub_le _ _) (Nat.le_trans hel hn))).mono ?_
    rintro e w4 ⟨A4, c4, rfl, N4, b4⟩
    have hfk : ∀ ad, A4 = some ad → ad.block ≠ kv := fun ad e => Nat.ne_of_gt (Nat.lt_of_lt_of_le X2.lt (N4.fr ad e))
    have hfU : ∀ ad, A4 = some ad → ad.block ≠ w.heap.size := fun ad e => Nat.ne_of_gt (Nat.lt_of_lt_of_le U.lt (N4.fr ad e))
    replace N4 : Nw 5 w w4 A4 (en - 7) c4 _ := Nw.mono (w1 := w3) N4 bb.size
    replace X2 := X2.under b4
    replace U := U.under b4
    replace bb := bb.trans (b4.mono bb.size)
    clear b4 HB hcut x0' x1' x2' x3' x4'
    obtain ⟨x0', x1', x2', x3', x4', f0, f1, f2, f3, f4⟩ := X2.five
    go_upto_region 7 with (fail)
    replace X2 := X2.set 4 (.slice A4 (en - 7) c4)
    simp only [List.setIfInBounds_toArray, List.set_cons_zero, List.set_cons_succ] at X2
    replace U := U.far (a := ⟨kv, 4, none⟩) hUk (.slice A4 (en - 7) c4)
    replace N4 := N4.far (a := ⟨kv, 4, none⟩) hfk (.slice A4 (en - 7) c4)
    replace bb := bb.setCell (p := ⟨kv, 4, none⟩) hwk (.slice A4 (en - 7) c4)
    generalize w4.setCell ⟨kv, 4, none⟩ (.slice A4 (en - 7) c4) = w5 at *
    clear x0' x1' x2' x3' x4' f0 f1 f2 f3 f4
    obtain ⟨x0', x1', x2', x3', x4', _⟩ := X2.five
    go_wp2_with fail
    refine (eCheck_any (La : Int) (N : Int) (Kd : Int) (G : Int) A4 (en - 7) c4 w5 (la_max lLa)).mono ?_
    rintro e w6 ⟨rfl, b6⟩
    replace X2 := X2.under b6
    replace U := U.under b6
    replace N4 := N4.below b6
    replace bb := bb.trans (b6.mono bb.size)
    clear b6 x0' x1' x2' x3' x4'
    have hlX : (hX b).l.length = en - 7 := hX_full HN.out hMM.out hen.out hfit
    have hok : (hX b).ok = xchk (La : Int) (N : Int) (Kd : Int) (G : Int) ((en - 7 : Nat) : Int) := by unfold Xp.ok; rw [hlX, hX0.out.1, hX0.out.2.1, hX0.out.2.2.1, hX0.out.2.2.2]
    cases r1 : xchk (La : Int) (N : Int) (Kd : Int) (G : Int) ((en - 7 : Nat) : Int)
    · have hr : Hid (fstX b = none) := fst_no (by rw [hok, r1]; simp)
      clear hok
      obtain ⟨z0, z1, z2, z3, z4, u0, u1, u2, u3, u4⟩ := U.five
      go_wp2
      try simp only [Exit.inBlock, Exit.then]
      exact ret_blk3x rfl rfl (((((U.set 0 (_)).set 1 (_)).set 2 (_)).set 3 (_)).set 4 (_)) Try.underlying50 (by kernel_rfl) rfl rfl (FstPost.mkNo hr.out (((((bb.setCell (p := ⟨w.heap.size, 0, none⟩) (Nat.le_refl _) (_)).setCell (p := ⟨w.heap.size, 1, none⟩) (Nat.le_refl _) (_)).setCell (p := ⟨w.heap.size, 2, none⟩) (Nat.le_refl _) (_)).setCell (p := ⟨w.heap.size, 3, none⟩) (Nat.le_refl _) (_)).setCell (p := ⟨w.heap.size, 4, none⟩) (Nat.le_refl _) (_)))
    · skip
      have hr := Lib.hid (fst_full HN.out hMM.out hen.out hfit (by rw [hok, r1]))
      have hdat : (b.take en).drop 7 = (hX b).l := dat_full hMM.out hen.out
      rw [hdat] at N4
      clear hdat hok
      have hcut := fun W => run_cut (P := Try.prog) 35 5 un22 el22 sz5 A n c .i64 (en : Int) en rfl hel W
      go_wp2_with fail
      refine wp_region_held_drew (S := fun w' => Below w.heap.size w6 w' ∧ Blk w' kv #[.int .i64 (La : Int), .int .i64 (N : Int), .int .i64 (Kd : Int), .int .i64 (G : Int), .slice A4 (en - 7) c4] 50) (by kernel_rfl) ⟨(Below.refl _ _).drew, X2.drew⟩ (fun hHeld => ?_)
      try dsimp only at hHeld
      have bd : Below w.heap.size w6 w6.drew := (Below.refl w.heap.size w6).drew
      replace U := U.drew
      replace X2 := X2.drew
      replace N4 : Nw _ _ _ _ _ _ _ := World.ownsRow.drew N4
      generalize w6.drew = wd at *
      try simp only [Act.put, List.setIfInBounds_toArray, List.set_cons_zero, List.set_cons_succ]
      refine wpAnyH_take (i := 0) (v := ?_) (by simp only [List.getElem?_toArray, List.getElem?_cons_zero]; rfl) (by kernel_rfl) (by kernel_rfl) (by kernel_rfl) (by intro _ _ _ h; exact h) (Or.inl ⟨by rfl, ?_⟩) hHeld ?_
      rotate_left 1
      · intro wq hSw
        try dsimp only at hSw
        obtain ⟨x0', x1', x2', x3', x4', _⟩ := hSw.2.five
        go_simp
        try (with_reducible rfl)
      try simp only [Act.put, List.setIfInBounds_toArray, List.set_cons_zero, List.set_cons_succ]
      refine wpAnyH_take (i := 1) (v := ?_) (by simp only [List.getElem?_toArray, List.getElem?_cons_succ, List.getElem?_cons_zero]; rfl) (by kernel_rfl) (by kernel_rfl) (by kernel_rfl) (by intro _ _ _ h; exact h) (Or.inl ⟨by rfl, ?_⟩) hHeld ?_
      rotate_left 1
      · intro wq hSw
        try dsimp only at hSw
        go_simp
        try (with_reducible rfl)
      try simp only [Act.put, List.setIfInBounds_toArray, List.set_cons_zero, List.set_cons_succ]
      refine wpAnyH_take (i := 2) (v := ?_) (by simp only [List.getElem?_toArray, List.getElem?_cons_succ, List.getElem?_cons_zero]; rfl) (by kernel_rfl) (by kernel_rfl) (by kernel_rfl) (by intro _ _ _ h; exact h) (Or.inl ⟨by rfl, ?_⟩) hHeld ?_
      rotate_left 1
      · intro wq hSw
        try dsimp only at hSw
        go_simp
        try (with_reducible rfl)
      try simp only [Act.put, List.setIfInBounds_toArray, List.set_cons_zero, List.set_cons_succ]
      refine wpAnyH_take (i := 3) (v := ?_) (by simp only [List.getElem?_toArray, List.getElem?_cons_succ, List.getElem?_cons_zero]; rfl) (by kernel_rfl) (by kernel_rfl) (by kernel_rfl) (by intro _ _ _ h; exact h) (Or.inl ⟨by rfl, ?_⟩) hHeld ?_
      rotate_left 1
      · intro wq hSw
        try dsimp only at hSw
        go_simp
        try (with_reducible rfl)
      try simp only [Act.put, List.setIfInBounds_toArray, List.set_cons_zero, List.set_cons_succ]
      refine wpAnyH_ready (rs := [4]) (by kernel_rfl) (by simp) ?_
      refine AllReadyH.cons (by simp only [List.getElem?_toArray, List.getElem?_cons_succ, List.getElem?_cons_zero]; rfl) (fun K hK => ?_) AllReadyH.nil
      obtain ⟨z0, z1, z2, z3, z4, y0, y1, y2, y3, y4⟩ := U.five
      go_simp
      have U2 := (((((U.set 0 (.int .i64 (La : Int))).set 1 (.int .i64 (N : Int))).set 2 (.int .i64 (Kd : Int))).set 3 (.int .i64 (G : Int))).set 4 (.slice A4 (en - 7) c4))
      simp only [List.setIfInBounds_toArray, List.set_cons_zero, List.set_cons_succ] at U2
      have bd2 := (((((bd.setCell (p := ⟨w.heap.size, 0, none⟩) (Nat.le_refl _) (.int .i64 (La : Int))).setCell (p := ⟨w.heap.size, 1, none⟩) (Nat.le_refl _) (.int .i64 (N : Int))).setCell (p := ⟨w.heap.size, 2, none⟩) (Nat.le_refl _) (.int .i64 (Kd : Int))).setCell (p := ⟨w.heap.size, 3, none⟩) (Nat.le_refl _) (.int .i64 (G : Int))).setCell (p := ⟨w.heap.size, 4, none⟩) (Nat.le_refl _) (.slice A4 (en - 7) c4))
      have N7 := (((((N4.far (a := ⟨w.heap.size, 0, none⟩) (hfU) (.int .i64 (La : Int))).far (a := ⟨w.heap.size, 1, none⟩) (hfU) (.int .i64 (N : Int))).far (a := ⟨w.heap.size, 2, none⟩) (hfU) (.int .i64 (Kd : Int))).far (a := ⟨w.heap.size, 3, none⟩) (hfU) (.int .i64 (G : Int))).far (a := ⟨w.heap.size, 4, none⟩) (hfU) (.slice A4 (en - 7) c4))
      have X7 := (((((X2.far (a := ⟨w.heap.size, 0, none⟩) (fun e => hUk e.symm) (.int .i64 (La : Int))).far (a := ⟨w.heap.size, 1, none⟩) (fun e => hUk e.symm) (.int .i64 (N : Int))).far (a := ⟨w.heap.size, 2, none⟩) (fun e => hUk e.symm) (.int .i64 (Kd : Int))).far (a := ⟨w.heap.size, 3, none⟩) (fun e => hUk e.symm) (.int .i64 (G : Int))).far (a := ⟨w.heap.size, 4, none⟩) (fun e => hUk e.symm) (.slice A4 (en - 7) c4))
      clear z0 z1 z2 z3 z4 y0 y1 y2 y3 y4 U bd N4 X2
      generalize (((((wd.setCell ⟨w.heap.size, 0, none⟩ (.int .i64 (La : Int))).setCell ⟨w.heap.size, 1, none⟩ (.int .i64 (N : Int))).setCell ⟨w.heap.size, 2, none⟩ (.int .i64 (Kd : Int))).setCell ⟨w.heap.size, 3, none⟩ (.int .i64 (G : Int))).setCell ⟨w.heap.size, 4, none⟩ (.slice A4 (en - 7) c4)) = w7 at *
      refine hK.out _ _ (⟨bd2, X7⟩) (fun hHeld => ?_)
      clear hK K
      try dsimp only at hHeld
      try simp only [Act.put, List.setIfInBounds_toArray, List.set_cons_zero, List.set_cons_succ]
      refine wpAnyH_take (i := 5) (v := ?_) (by simp only [List.getElem?_toArray, List.getElem?_cons_succ, List.getElem?_cons_zero]; rfl) (by kernel_rfl) (by kernel_rfl) (by kernel_rfl) (by intro _ _ _ h; exact h) (Or.inl ⟨by rfl, ?_⟩) hHeld ?_
      rotate_left 1
      · intro wq hSw
        try dsimp only at hSw
        go_simp
        try (with_reducible rfl)
      try simp only [Act.put, List.setIfInBounds_toArray, List.set_cons_zero, List.set_cons_succ]
      refine wpAnyH_take (i := 6) (v := ?_) (by simp only [List.getElem?_toArray, List.getElem?_cons_succ, List.getElem?_cons_zero]; rfl) (by kernel_rfl) (by kernel_rfl) (by kernel_rfl) (by intro _ _ _ h; exact h) (Or.inl ⟨by rfl, ?_⟩) hHeld ?_
      rotate_left 1
      · intro wq hSw
        try dsimp only at hSw
        go_simp
        try (with_reducible rfl)
      try simp only [Act.put, List.setIfInBounds_toArray, List.set_cons_zero, List.set_cons_succ]
      refine wpAnyH_done (by kernel_rfl) ?_ _
      go_wp2
      try simp only [Exit.inBlock, Exit.then]
      exact ret_blk3x rfl rfl U2 Try.underlying50 (by kernel_rfl) rfl rfl (FstPost.mkYes hr.out hX0.out.1 hX0.out.2.1 hX0.out.2.2.1 hX0.out.2.2.2 hlX (en_sub he7) N7 (bb.trans bd2))
end Go.Proofs.Ytbhohjbgbachhaa

/-
  Contract of the closure of package extent's Read (written by gen_ext8.py).
-/
namespace Go.Wag
open Go.RowKit
set_option linter.unusedVariables false
theorem grown_far {w w' : World} {r : Option Nat} (h : w.grownBy w' r) {a : Addr} (ha : w.heap.size ≤ a.block) (u : Value) : w.grownBy (w'.setCell a u) r := by
  have g := grown_set w' a u
  refine ⟨g.os.trans h.os, g.tape.trans h.tape, g.output.trans h.output, Nat.le_trans h.size g.size, fun i hi hne => ?_⟩
  refine (g.block i (Nat.lt_of_lt_of_le hi h.size) (fun e => ?_)).trans (h.block i hi hne)
  have := Option.some.inj e
  omega
theorem grown_here {w w' : World} {k : Nat} (h : w.grownBy w' (some k)) (i : Nat) (u : Value) : w.grownBy (w'.setCell ⟨k, i, none⟩ u) (some k) := by
  have g := grown_set w' ⟨k, i, none⟩ u
  exact ⟨g.os.trans h.os, g.tape.trans h.tape, g.output.trans h.output, Nat.le_trans h.size g.size, fun i hi hne => (g.block i (Nat.lt_of_lt_of_le hi h.size) hne).trans (h.block i hi hne)⟩
end Go.Wag
namespace Go.Proofs.Ytbhohjbgbachhaa
open Go.RowKit Go.Wag
set_option linter.unusedVariables false
set_option maxRecDepth 20000
/-- What the closure answers: the next extent, and the variable cut to the rest. -/
def TakePost (w : World) (kl : Nat) (A : Option Addr) (n c : Nat) (r : Option (Xp × List UInt8)) (e : Ending) (w' : World) : Prop :=
  match r with
  | none => e = .returned (.tuple #[.agg #[.int .i64 0, .int .i64 0, .int .i64 0, .int .i64 0, .slice none 0 0], .bool false]) ∧ Blk w' kl #[.slice none 0 0] 35 ∧ w.grownBy w' (some kl)
  | some y => ∃ A' m c', Hid (m = y.1.l.length) ∧ e = .returned (.tuple #[.agg #[.int .i64 y.1.la, .int .i64 y.1.n, .int .i64 y.1.k, .int .i64 y.1.g, .slice A' m c'], .bool true]) ∧ Sl w' A' m c' (y.1.l.map v8) ∧ Fr w A' ∧
      Blk w' kl #[.slice (cutA A c (7 + m)) (n - (7 + m)) (c - (7 + m))] 35 ∧ w.grownBy w' (some kl)
theorem TakePost.mkNo {w w' : World} {kl : Nat} {A : Option Addr} {n c : Nat} {r : Option (Xp × List UInt8)} (hr : r = none) (hB : Blk w' kl #[.slice none 0 0] 35) (hg : w.grownBy w' (some kl)) : TakePost w kl A n c r (.returned (.tuple #[.agg #[.int .i64 0, .int .i64 0, .int .i64 0, .int .i64 0, .slice none 0 0], .bool false])) w' := by
  subst hr
  exact ⟨rfl, hB, hg⟩
theorem TakePost.mkYes {w w' : World} {kl : Nat} {A : Option Addr} {n c : Nat} {r : Option (Xp × List UInt8)} {x : Xp} {t : List UInt8} {A' : Option Addr} {m c' : Nat} (hr : r = some (x, t)) (hm : m = x.l.length) (hS : Sl w' A' m c' (x.l.map v8)) (hF : Fr w A')
    (hB : Blk w' kl #[.slice (cutA A c (7 + m)) (n - (7 + m)) (c - (7 + m))] 35) (hg : w.grownBy w' (some kl)) :
    TakePost w kl A n c r (.returned (.tuple #[.agg #[.int .i64 x.la, .int .i64 x.n, .int .i64 x.k, .int .i64 x.g, .slice A' m c'], .bool true])) w' := by
  subst hr
  exact ⟨A', m, c', hm, rfl, hS, hF, hB, hg⟩
set_option maxHeartbeats 2000000 in
theorem eTake_any (kl : Nat) (A : Option Addr) (n c : Nat) (b : List UInt8) (w : World) (L : Blk w kl #[.slice A n c] 35) (h : Sl w A n c (b.map v8)) (hn : n ≤ 10000000000000) :
    Calls Try.prog 95 #[.pointer (some ⟨kl, 0, none⟩)] w (TakePost w kl A n c (fstX b)) := by
  have hkl := L.lt
  have U := Blk.new w #[.int .i64 0, .int .i64 0, .int .i64 0, .int .i64 0, .slice none 0 0] 50
  have bb := (Below.refl w.heap.size w).alloc (Nat.le_refl _) (.cells #[.int .i64 0, .int .i64 0, .int .i64 0, .int .i64 0, .slice none 0 0] 50)
  replace L := L.alloc (.cells #[.int .i64 0, .int .i64 0, .int .i64 0, .int .i64 0, .slice none 0 0] 50)
  replace h := h.alloc (.cells #[.int .i64 0, .int .i64 0, .int .i64 0, .int .i64 0, .slice none 0 0] 50)
  have n1 : kl ≠ w.heap.size := Nat.ne_of_lt hkl
  have n2 : w.heap.size ≠ kl := fun e => n1 e.symm
  obtain ⟨l0, _⟩ := L.one
  cases hf : fstX b with
  | none =>
    go_enter Try.func95, Try.ntmps95
    go_wp2_with fail
    refine (FstPost.no (eFirst_any A n c b _ h hn) hf).mono ?_
    rintro e w2 ⟨rfl, b2⟩
    replace U := U.under b2
    replace L := L.under b2
    replace bb := bb.trans (b2.mono bb.size)
    clear b2 l0
    obtain ⟨z0, z1, z2, z3, z4, y0, y1, y2, y3, y4⟩ := U.five
    obtain ⟨l0, l1⟩ := L.one
    go_upto_region 2 with (fail)
    replace U := (((((U.set 0 (.int .i64 0)).set 1 (.int .i64 0)).set 2 (.int .i64 0)).set 3 (.int .i64 0)).set 4 (.slice none 0 0)).far (a := ⟨kl, 0, none⟩) n2 (.slice none 0 0)
    simp only [List.setIfInBounds_toArray, List.set_cons_zero, List.set_cons_succ] at U
    replace L := (((((L.far (a := ⟨w.heap.size, 0, none⟩) (n1) (.int .i64 0)).far (a := ⟨w.heap.size, 1, none⟩) (n1) (.int .i64 0)).far (a := ⟨w.heap.size, 2, none⟩) (n1) (.int .i64 0)).far (a := ⟨w.heap.size, 3, none⟩) (n1) (.int .i64 0)).far (a := ⟨w.heap.size, 4, none⟩) (n1) (.slice none 0 0)).set 0 (.slice none 0 0)
    simp only [List.setIfInBounds_toArray, List.set_cons_zero] at L
    have gr := grown_here (grown_far (grown_far (grown_far (grown_far (grown_far (only_of bb (some kl)) (a := ⟨w.heap.size, 0, none⟩) (Nat.le_refl _) (.int .i64 0)) (a := ⟨w.heap.size, 1, none⟩) (Nat.le_refl _) (.int .i64 0)) (a := ⟨w.heap.size, 2, none⟩) (Nat.le_refl _) (.int .i64 0)) (a := ⟨w.heap.size, 3, none⟩) (Nat.le_refl _) (.int .i64 0)) (a := ⟨w.heap.size, 4, none⟩) (Nat.le_refl _) (.slice none 0 0)) 0 (.slice none 0 0)
    generalize ((((((w2.setCell ⟨w.heap.size, 0, none⟩ (.int .i64 0)).setCell ⟨w.heap.size, 1, none⟩ (.int .i64 0)).setCell ⟨w.heap.size, 2, none⟩ (.int .i64 0)).setCell ⟨w.heap.size, 3, none⟩ (.int .i64 0)).setCell ⟨w.heap.size, 4, none⟩ (.slice none 0 0)).setCell ⟨kl, 0, none⟩ (.slice none 0 0)) = w3 at *
    clear z0 z1 z2 z3 z4 y0 y1 y2 y3 y4 l0 l1 bb
    obtain ⟨z0, z1, z2, z3, z4, y0, y1, y2, y3, y4⟩ := U.five
    go_wp2
    try simp only [Exit.inBlock, Exit.then]
    exact ret_blk2 rfl rfl (((((U.set 0 (_)).set 1 (_)).set 2 (_)).set 3 (_)).set 4 (_)) Try.underlying50 (by kernel_rfl) rfl (TakePost.mkNo rfl (((((L.far (a := ⟨w.heap.size, 0, none⟩) (n1) (_)).far (a := ⟨w.heap.size, 1, none⟩) (n1) (_)).far (a := ⟨w.heap.size, 2, none⟩) (n1) (_)).far (a := ⟨w.heap.size, 3, none⟩) (n1) (_)).far (a := ⟨w.heap.size, 4, none⟩) (n1) (_)) (grown_far (grown_far (grown_far (grown_far (grown_far gr (a := ⟨w.heap.size, 0, none⟩) (Nat.le_refl _) (_)) (a := ⟨w.heap.size, 1, none⟩) (Nat.le_refl _) (_)) (a := ⟨w.heap.size, 2, none⟩) (Nat.le_refl _) (_)) (a := ⟨w.heap.size, 3, none⟩) (Nat.le_refl _) (_)) (a := ⟨w.heap.size, 4, none⟩) (Nat.le_refl _) (_)))
  | some y =>
    obtain ⟨x, t⟩ := y
    go_enter Try.func95, Try.ntmps95
    go_wp2_with fail
    refine (FstPost.ok (eFirst_any A n c b _ h hn) hf).mono ?_
    rintro e w2 ⟨A2, c2, rfl, N2, b2⟩
    obtain ⟨m, hm⟩ : ∃ m, Hid (m = x.l.length) := ⟨_, rfl⟩
    dsimp only at N2
    try dsimp only
    rw [← hm.out] at N2
    try rw [← hm.out]
    have hfU : ∀ ad, A2 = some ad → ad.block ≠ w.heap.size := fun ad e => Nat.ne_of_gt (Nat.lt_of_lt_of_le U.lt (N2.fr ad e))
    have hfk : ∀ ad, A2 = some ad → ad.block ≠ kl := fun ad e => Nat.ne_of_gt (Nat.lt_of_lt_of_le L.lt (N2.fr ad e))
    have hfr : Fr w A2 := fun ad e => Nat.le_trans (Nat.le_of_lt U.lt) (N2.fr ad e)
    have S2 := N2.sl
    replace U := U.under b2
    replace L := L.under b2
    replace bb := bb.trans (b2.mono bb.size)
    clear b2 l0 N2
    obtain ⟨z0, z1, z2, z3, z4, y0, y1, y2, y3, y4⟩ := U.five
    obtain ⟨l0, l1⟩ := L.one
    generalize hA3 : cutA A c (7 + m) = A3 at *
    generalize hn3 : n - (7 + m) = n3 at *
    generalize hc3 : c - (7 + m) = c3 at *
    go_upto_region 2 with (fail)
    replace U := (((((U.set 0 (.int .i64 x.la)).set 1 (.int .i64 x.n)).set 2 (.int .i64 x.k)).set 3 (.int .i64 x.g)).set 4 (.slice A2 m c2)).far (a := ⟨kl, 0, none⟩) n2 (.slice A3 n3 c3)
    simp only [List.setIfInBounds_toArray, List.set_cons_zero, List.set_cons_succ] at U
    replace L := (((((L.far (a := ⟨w.heap.size, 0, none⟩) (n1) (.int .i64 x.la)).far (a := ⟨w.heap.size, 1, none⟩) (n1) (.int .i64 x.n)).far (a := ⟨w.heap.size, 2, none⟩) (n1) (.int .i64 x.k)).far (a := ⟨w.heap.size, 3, none⟩) (n1) (.int .i64 x.g)).far (a := ⟨w.heap.size, 4, none⟩) (n1) (.slice A2 m c2)).set 0 (.slice A3 n3 c3)
    simp only [List.setIfInBounds_toArray, List.set_cons_zero] at L
    have gr := grown_here (grown_far (grown_far (grown_far (grown_far (grown_far (only_of bb (some kl)) (a := ⟨w.heap.size, 0, none⟩) (Nat.le_refl _) (.int .i64 x.la)) (a := ⟨w.heap.size, 1, none⟩) (Nat.le_refl _) (.int .i64 x.n)) (a := ⟨w.heap.size, 2, none⟩) (Nat.le_refl _) (.int .i64 x.k)) (a := ⟨w.heap.size, 3, none⟩) (Nat.le_refl _) (.int .i64 x.g)) (a := ⟨w.heap.size, 4, none⟩) (Nat.le_refl _) (.slice A2 m c2)) 0 (.slice A3 n3 c3)
    have S3 := (((((S2.far (a := ⟨w.heap.size, 0, none⟩) (hfU) (.int .i64 x.la)).far (a := ⟨w.heap.size, 1, none⟩) (hfU) (.int .i64 x.n)).far (a := ⟨w.heap.size, 2, none⟩) (hfU) (.int .i64 x.k)).far (a := ⟨w.heap.size, 3, none⟩) (hfU) (.int .i64 x.g)).far (a := ⟨w.heap.size, 4, none⟩) (hfU) (.slice A2 m c2)).far (a := ⟨kl, 0, none⟩) hfk (.slice A3 n3 c3)
    generalize ((((((w2.setCell ⟨w.heap.size, 0, none⟩ (.int .i64 x.la)).setCell ⟨w.heap.size, 1, none⟩ (.int .i64 x.n)).setCell ⟨w.heap.size, 2, none⟩ (.int .i64 x.k)).setCell ⟨w.heap.size, 3, none⟩ (.int .i64 x.g)).setCell ⟨w.heap.size, 4, none⟩ (.slice A2 m c2)).setCell ⟨kl, 0, none⟩ (.slice A3 n3 c3)) = w3 at *
    clear z0 z1 z2 z3 z4 y0 y1 y2 y3 y4 l0 l1 bb
    obtain ⟨z0, z1, z2, z3, z4, y0, y1, y2, y3, y4⟩ := U.five
    go_wp2
    try simp only [Exit.inBlock, Exit.then]
    subst hA3 hn3 hc3
    exact ret_blk2 rfl rfl (((((U.set 0 (_)).set 1 (_)).set 2 (_)).set 3 (_)).set 4 (_)) Try.underlying50 (by kernel_rfl) rfl (TakePost.mkYes rfl hm.out (((((S3.far (a := ⟨w.heap.size, 0, none⟩) (hfU) (_)).far (a := ⟨w.heap.size, 1, none⟩) (hfU) (_)).far (a := ⟨w.heap.size, 2, none⟩) (hfU) (_)).far (a := ⟨w.heap.size, 3, none⟩) (hfU) (_)).far (a := ⟨w.heap.size, 4, none⟩) (hfU) (_)) hfr (((((L.far (a := ⟨w.heap.size, 0, none⟩) (n1) (_)).far (a := ⟨w.heap.size, 1, none⟩) (n1) (_)).far (a := ⟨w.heap.size, 2, none⟩) (n1) (_)).far (a := ⟨w.heap.size, 3, none⟩) (n1) (_)).far (a := ⟨w.heap.size, 4, none⟩) (n1) (_)) (grown_far (grown_far (grown_far (grown_far (grown_far gr (a := ⟨w.heap.size, 0, none⟩) (Nat.le_refl _) (_)) (a := ⟨w.heap.size, 1, none⟩) (Nat.le_refl _) (_)) (a := ⟨w.heap.size, 2, none⟩) (Nat.le_refl _) (_)) (a := ⟨w.heap.size, 3, none⟩) (Nat.le_refl _) (_)) (a := ⟨w.heap.size, 4, none⟩) (Nat.le_refl _) (_)))
end Go.Proofs.Ytbhohjbgbachhaa

/-
  Contract of package extent's Read (written by gen_ext9.py).
-/
namespace Go.Wag
theorem xrd_short {b : List UInt8} {cc : UInt8} {t0 : List UInt8} (hb : b = cc :: t0) {k : Nat} (hk : k < cc.toNat) {xs : List Xp} {t : List UInt8} (hg : goX k t0 = some (xs, t)) (hf : fstX t = none) : xrd b = none := by
  subst hb
  have e : goX (k + 1) t0 = none := by rw [goX_snoc k t0 xs t hg, hf]; rfl
  rw [xrd_cons, goX_none hk e]
  rfl
theorem xrd_big {b : List UInt8} {cc : UInt8} {t0 : List UInt8} (hb : b = cc :: t0) (h : ¬ cc.toNat ≤ 64) : xrd b = none := by
  subst hb
  rw [xrd_cons]
  cases hg : goX cc.toNat t0 with
  | none => rfl
  | some y =>
    simp only [Option.bind_some]
    rw [if_neg (fun hh => h hh.2)]
theorem xrd_left {b : List UInt8} {cc : UInt8} {t0 : List UInt8} (hb : b = cc :: t0) {k : Nat} (hk : k = cc.toNat) {xs : List Xp} {t : List UInt8} (hg : goX k t0 = some (xs, t)) (ht : t.length > 0) : xrd b = none := by
  subst hb hk
  rw [xrd_cons, hg]
  simp only [Option.bind_some]
  rw [if_neg (fun hh => by rw [hh.1] at ht; simp at ht)]
theorem xrd_all {b : List UInt8} {cc : UInt8} {t0 : List UInt8} (hb : b = cc :: t0) {k : Nat} (hk : k = cc.toNat) (h64 : cc.toNat ≤ 64) {xs : List Xp} {t : List UInt8} (hg : goX k t0 = some (xs, t)) (ht : t.length = 0) : xrd b = some xs := by
  subst hb hk
  rw [xrd_cons, hg]
  simp only [Option.bind_some]
  rw [if_pos ⟨List.length_eq_zero_iff.1 ht, h64⟩]
theorem goX_next {t0 : List UInt8} {k : Nat} {xs : List Xp} {t t2 : List UInt8} {x : Xp} (hg : goX k t0 = some (xs, t)) (hf : fstX t = some (x, t2)) : goX (k + 1) t0 = some (xs ++ [x], t2) := by
  rw [goX_snoc k t0 xs t hg, hf]
  rfl
end Go.Wag
namespace Go.Proofs.Ytbhohjbgbachhaa
open Go.RowKit Go.Wag
set_option linter.unusedVariables false
set_option maxRecDepth 20000
/-- Extents in memory of their own, or an error. -/
def RdPost (w : World) (r : Option (List Xp)) (e : Ending) (w' : World) : Prop :=
  ∃ A k c, Hid (k = (r.getD []).length) ∧ e = .returned (.tuple #[.slice A k c, .int .i64 (errOf r 70)]) ∧ Rs extE (fun x => w.heap.size ≤ x) w' A k c (r.getD []) ∧ Below w.heap.size w w'
theorem RdPost.no {w w' : World} {r : Option (List Xp)} (hr : r = none) (hb : Below w.heap.size w w') : RdPost w r (.returned (.tuple #[.slice none 0 0, .int .i64 70])) w' := by
  subst hr
  exact ⟨none, 0, 0, rfl, rfl, Rs.nil _ _ _, hb⟩
theorem RdPost.yes {w w' : World} {r : Option (List Xp)} {xs : List Xp} {A : Option Addr} {k c : Nat} (hr : r = some xs) (hk : k = xs.length) (hR : Rs extE (fun x => w.heap.size ≤ x) w' A k c xs) (hb : Below w.heap.size w w') : RdPost w r (.returned (.tuple #[.slice A k c, .int .i64 0])) w' := by
  subst hr
  exact ⟨A, k, c, hk, rfl, hR, hb⟩
/-- What holds at Read's label. -/
def ReadAt (w : World) (A : Option Addr) (n c C : Nat) (t0 : List UInt8) (g : Nat) (a' : Act) (w' : World) : Prop :=
  ∃ (k kl gq c1 : Nat) (Ar : Option Addr) (cr : Nat) (A2 : Option Addr) (n2 c2 : Nat) (xs : List Xp) (t : List UInt8) (u9 u10 u11 u12 u13 u14 u15 u16 u17 u18 u19 u20 u21 u22 u23 u24 u25 u26 u27 u28 u29 u30 u31 u32 u33 u34 u35 u36 u37 u38 u39 u40 u41 u42 u43 u44 u45 u46 u47 u48 u49 u50 u51 u52 : Value), a' = { tmps := #[.slice A n c, undef, .slice none 0 0, .int .i64 0, .slice (some ⟨gq, 0, none⟩) 1 c1, .int .i64 0, .pointer (some ⟨kl, 0, none⟩), (.func (.func 95) #[] #[.pointer (some ⟨kl, 0, none⟩)]), .slice Ar k cr, u9, u10, u11, u12, u13, u14, u15, u16, u17, u18, u19, u20, u21, u22, u23, u24, u25, u26, u27, u28, u29, u30, u31, u32, u33, u34, u35, u36, u37, u38, u39, u40, u41, u42, u43, u44, u45, u46, u47, u48, u49, u50, u51, u52], defers := [] } ∧
    k + g = C ∧ Hid (goX k t0 = some (xs, t)) ∧ n2 ≤ 10000000000000 ∧ 1 ≤ c1 ∧ Blk w' kl #[.slice A2 n2 c2] 35 ∧ Sl w A2 n2 c2 (t.map v8) ∧ w'.cell? ⟨gq, 0, none⟩ = some (.int .u64 (C : Int)) ∧ gq < kl ∧ w.heap.size ≤ gq ∧
    Rq extE (fun x => kl + 1 ≤ x) (kl + 1) 50 w' Ar k cr xs ∧ Below w.heap.size w w' ∧ c1 ≤ 9223372036854775807
set_option maxHeartbeats 4000000 in
theorem eRead_any (A : Option Addr) (n c : Nat) (b : List UInt8) (w : World) (h : Sl w A n c (b.map v8)) (hn : n ≤ 10000000000000) :
    Calls Try.prog 80 #[.slice A n c] w (RdPost w (xrd b)) := by
  have HN : Hid (b.length = n) := h.len8
  have hcap := h.cap
  have hbig := h.big
  obtain ⟨iX, hiX, hzX, hsX, hbX⟩ := iExt
  cases hb : b with
  | nil =>
    obtain rfl : 0 = n := by have := HN.out; rw [hb] at this; exact this
    have h0 := h.upto (m := 0) (Nat.le_refl _)
    rw [hb] at h0
    go_enter Try.func80, Try.ntmps80
    go_wp2
    refine wp_scope_ghost 0 (fun _ _ _ => False) rfl (fun _ _ _ hf => hf.elim) ?_
    intro L hL
    go_wp2_with fail
    refine (NumsErr.no (Unpack_any ⟨#[98]⟩ A 0 c [] w h0 (by decide)) xunpack_none).mono ?_
    rintro e w2 ⟨A2, n2, c2, rfl, s2, f2, b2⟩
    go_wp2
    simp only [Exit.jump]
    go_ret2
    exact RdPost.no rfl b2
  | cons cc t0 =>
  rw [← hb]
  have hn1 : 1 ≤ n := by have := HN.out; rw [hb] at this; rw [← this]; exact Nat.succ_le_succ (Nat.zero_le _)
  have hn1' : ¬ (n : Int) < 1 := fun hh => absurd (Int.ofNat_lt.1 hh) (Nat.not_lt.2 hn1)
  have h1 := h.upto (m := 1) hn1
  rw [← List.map_take] at h1
  obtain ⟨C, hC⟩ : ∃ C, Hid (cc.toNat = C) := ⟨_, rfl⟩
  have hCc : C < 256 := by rw [← hC.out]; exact cc.toNat_lt
  have hun := Lib.hid (xunpack_one cc t0 hb)
  replace hb := Lib.hid hb
  by_cases hbig64 : 64 < C
  · have hC64 : (C : Int) > 64 := Int.ofNat_lt.2 hbig64
    have hr := Lib.hid (xrd_big hb.out (by rw [hC.out]; exact Nat.not_le.2 hbig64))
    go_enter Try.func80, Try.ntmps80
    go_wp2
    refine wp_scope_ghost 0 (fun _ _ _ => False) rfl (fun _ _ _ hf => hf.elim) ?_
    intro L hL
    go_wp2_with fail
    refine (NumsErr.ok (Unpack_any ⟨#[98]⟩ A 1 c (b.take 1) w h1 (by decide)) hun.out).mono ?_
    rintro e w2 ⟨A2, n2, c2, rfl, s2, f2, b2⟩
    obtain ⟨g, rfl, rfl, hc4, hcb, hg0, hg1, g0⟩ := nums1x f2
    rw [hC.out, xnat64 (Nat.lt_of_lt_of_le hCc (by decide))] at g0
    go_wp2
    simp only [Exit.jump]
    go_ret2
    exact RdPost.no hr.out b2
  have hC64 : ¬ (C : Int) > 64 := fun hh => hbig64 (Int.ofNat_lt.1 hh)
  have w1 : wrap64 (C : Int) = C := by unfold wrap64; omega
  have w2 : IntKind.i64.wrap (C : Int) = C := (IntWalk.i64_left _).trans w1
  go_enter Try.func80, Try.ntmps80
  go_wp2
  refine wp_scope_ghost 0 (ReadAt w A n c C t0) rfl ?_ ?_
  · rintro g a' w' ⟨k, kl, gq, c1, Ar, cr, A2, n2, c2, xs, t, u9, u10, u11, u12, u13, u14, u15, u16, u17, u18, u19, u20, u21, u22, u23, u24, u25, u26, u27, u28, u29, u30, u31, u32, u33, u34, u35, u36, u37, u38, u39, u40, u41, u42, u43, u44, u45, u46, u47, u48, u49, u50, u51, u52, rfl, hkg, hG, hn2, hc1, L, S, hq, hqk, hwq, Rr, bb, hcb1⟩ J hJ
    have hwl : w.heap.size ≤ kl := by omega
    obtain ⟨l0, _⟩ := L.one
    have ht : t.length = n2 := S.len8
    by_cases hlt : (k : Int) < (C : Int)
    · have hkC : k < C := Int.ofNat_lt.1 hlt
      go_wp2_with fail
      cases hf : fstX t with
      | none =>
        have hC0 := eTake_any kl A2 n2 c2 t w' L (S.below bb) hn2
        rw [hf] at hC0
        refine hC0.mono ?_
        clear hC0
        rintro e w3 ⟨rfl, L3, gr⟩
        replace bb := bb.grown gr (by have := L.lt; omega) (fun x hx => by have := Option.some.inj hx; omega)
        go_wp2
        simp only [Exit.jump]
        go_ret2
        exact RdPost.no (xrd_short hb.out (by rw [hC.out]; exact hkC) hG.out hf) (bb.alloc bb.size _)
      | some y =>
        obtain ⟨x, t2⟩ := y
        have hC0 := eTake_any kl A2 n2 c2 t w' L (S.below bb) hn2
        rw [hf] at hC0
        refine hC0.mono ?_
        clear hC0
        rintro e w3 ⟨A4, m, c4, hm, rfl, S4, fr, L3, gr⟩
        dsimp only at hm S4 L3
        have hfs := fst_some hf
        have hro := Rr.lt
        have hmM : m = hM t := hm.out.trans hfs.2.2.2.1
        have hS2 := S.from_ (k := 7 + m) (by rw [hmM, ← ht]; exact hfs.2.2.1)
        rw [← List.map_drop, hmM, ← hfs.2.2.2.2.1, ← hmM] at hS2
        clear hfs hmM
        have hA4 : ∀ ad, A4 = some ad → kl + 1 ≤ ad.block ∧ (Value.slice Ar k cr).ownBlock ≠ some ad.block := fun ad e => by
          have h1 := fr ad e
          refine ⟨by have := L.lt; omega, fun e2 => ?_⟩
          have := (hro _ e2).2
          omega
        have hrd : extE.rd (fun x => kl + 1 ≤ x ∧ (Value.slice Ar k cr).ownBlock ≠ some x) w3 [.int .i64 x.la, .int .i64 x.n, .int .i64 x.k, .int .i64 x.g, .slice A4 m c4] x :=
          ⟨A4, c4, by rw [hm.out], by rw [← hm.out]; exact S4, fun _ ad e => hA4 ad e⟩
        clear hA4 S4 fr
        have hkl' := L.lt
        replace Rr := Rr.grown gr (fun x hx e => by have := (hro x hx).1; have := Option.some.inj e; omega) (fun x _ hx e => by have := Option.some.inj e; omega)
        replace bb := bb.grown gr (by omega) (fun x hx => by have := Option.some.inj hx; omega)
        have hq3 : w3.cell? ⟨gq, 0, none⟩ = some (.int .u64 (C : Int)) := (World.cell?_of_block (gr.block gq (by omega) (by intro e; have := Option.some.inj e; omega))).trans hq
        clear gr hro l0 hq L
        have V := Blk.new w3 #[.int .i64 x.la, .int .i64 x.n, .int .i64 x.k, .int .i64 x.g, .slice A4 m c4] 50
        have a1 := (Below.refl w3.heap.size w3).alloc (Nat.le_refl _) (.cells #[.int .i64 x.la, .int .i64 x.n, .int .i64 x.k, .int .i64 x.g, .slice A4 m c4] 50)
        have a2 := a1.alloc a1.size (.cells #[.int .i64 x.la, .int .i64 x.n, .int .i64 x.k, .int .i64 x.g, .slice A4 m c4] 50)
        have Bs := Blk.new (w3.alloc (.cells #[.int .i64 x.la, .int .i64 x.n, .int .i64 x.k, .int .i64 x.g, .slice A4 m c4] 50)) #[.int .i64 x.la, .int .i64 x.n, .int .i64 x.k, .int .i64 x.g, .slice A4 m c4] 50
        simp only [World.size_alloc] at Bs
        have L5 := L3.under a2
        have hq5 := (a2.cell (p := ⟨gq, 0, none⟩) (by have := L3.lt; show gq < _; omega)).trans hq3
        replace Rr := Rr.under a2
        replace hrd := Elt.below hrd a2
        replace bb := bb.trans (a2.mono bb.size)
        have hs4 : kl + 1 ≤ ((w3.alloc (.cells #[.int .i64 x.la, .int .i64 x.n, .int .i64 x.k, .int .i64 x.g, .slice A4 m c4] 50)).alloc (.cells #[.int .i64 x.la, .int .i64 x.n, .int .i64 x.k, .int .i64 x.g, .slice A4 m c4] 50)).heap.size := L5.lt
        clear a1 a2
        obtain ⟨A5, c5, w5, hr, R5, gr, hlies⟩ := Rr.app (P := Try.prog) (T := 23) (ty := 23) Try.underlying23 hiX hzX hsX hbX rfl hs4 (by omega) (by omega) hrd (one_ext _ _ _ _ _ _ _) Bs
        have hro := Rr.lt
        have L6 := L5.same (gr.block _ L5.lt (fun e => by have := (hro _ e.symm).1; omega))
        have hq6 := (World.cell?_of_block (gr.block gq (by omega) (fun e => by have := (hro _ e.symm).1; omega))).trans hq5
        have bb6 := bb.grown gr (by omega) (fun x hx => by have := (hro x hx).1; omega)
        clear hro gr hrd Bs hlies Rr L5 hq5 hq3 bb L3
        obtain ⟨v0, v1, v2, v3, v4, _⟩ := V.five
        go_wp2_with (at_builtin; refine wpList_run rfl (.tmp 45) (.tmp 47) 23 rfl rfl rfl hr ?_; intro _)
        try go_step3
        exact ⟨rfl, Handed.intro (g - 1) (by omega) (hJ _ _ _ ⟨k + 1, kl, gq, c1, A5, c5, _, _, _, xs ++ [x], t2, _, _, _, _, _, _, _, _, _, _, _, _, _, _, _, _, _, _, _, _, _, _, _, _, _, _, _, _, _, _, _, _, _, _, _, _, _, _, _, _, _, _, _, _, rfl, by omega, goX_next hG.out hf, by omega, hc1, L6, hS2, hq6, hqk, hwq, R5, bb6, hcb1⟩)⟩
    · have hkC : Hid (k = C) := by unfold Hid; omega
      by_cases hl2 : (n2 : Int) > 0
      · go_wp2_with fail
        simp only [Exit.jump]
        go_ret2
        exact RdPost.no (xrd_left hb.out (by rw [hC.out]; exact hkC.out) hG.out (by omega)) bb
      · go_wp2_with fail
        simp only [Exit.jump]
        go_ret2
        exact RdPost.yes (xrd_all hb.out (by rw [hC.out]; exact hkC.out) (by rw [hC.out]; omega) hG.out (by omega)) Rr.len.symm ((Rr.imp (F' := fun x => w.heap.size ≤ x) (fun x _ hx => by omega)).toRs (fun x _ hx => by omega)) bb
  · intro L hL
    go_wp2_with fail
    refine (NumsErr.ok (Unpack_any ⟨#[98]⟩ A 1 c (b.take 1) w h1 (by decide)) hun.out).mono ?_
    rintro e w3 ⟨A2, n2, c2, rfl, s2, f2, b2⟩
    obtain ⟨g, rfl, rfl, hc4, hcb, hg0, hg1, g0⟩ := nums1x f2
    rw [hC.out, xnat64 (Nat.lt_of_lt_of_le hCc (by decide))] at g0
    have hcut := fun W => run_cut (P := Try.prog) 35 5 un22 el22 sz5 A n c .i64 (1 : Int) 1 rfl hn1 W
    have hS := h.from_ hn1
    rw [← List.map_drop, hb.out] at hS
    go_wp2
    rename_i K hK
    go_step3
    try simp only [Exit.then]
    have L := Blk.new w3 #[.slice (cutA A c 1) (n - 1) (c - 1)] 35
    have a1 := (Below.refl w3.heap.size w3).alloc (Nat.le_refl _) (.cells #[.slice (cutA A c 1) (n - 1) (c - 1)] 35)
    exact hK _ _ (hL C _ _ ⟨0, w3.heap.size, g, c2, none, 0, cutA A c 1, n - 1, c - 1, [], t0, _, _, _, _, _, _, _, _, _, _, _, _, _, _, _, _, _, _, _, _, _, _, _, _, _, _, _, _, _, _, _, _, _, _, _, _, _, _, _, _, _, _, _, _, rfl, Nat.zero_add _, rfl, Nat.le_trans (Nat.sub_le _ _) hn, hc4, L, hS, (a1.cell (p := ⟨g, 0, none⟩) hg1).trans g0, hg1, hg0, Rq.nil _ _ _ _ _, b2.trans (a1.mono b2.size), hcb⟩)
end Go.Proofs.Ytbhohjbgbachhaa
