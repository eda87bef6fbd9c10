/-
  Contract of first of package extent (written by gen_ext7.py).
-/
import Derived.Test.YtepaojegcaapfaaExt6
import Derived.Test.YtepaojegcaapfaaExtRd
import Derived.Test.YtepaojegcaapfaaLeRef
namespace Go.Wag
open Go.RowKit
set_option linter.unusedVariables false
theorem results_cell_tmp2x {fn : Func} {p u v : Tmp} {ty : TypeId} (h : fn.results = #[.cell p ty, .tmp u, .tmp v]) (tmps : Array Value) (P : Program) (w : World) :
    (results fn tmps).run P w =
      ((asAddr (tmps.getD p undef)).run P w).andThen fun a w₁ => ((loadVar ty a).run P w₁).andThen fun x w₂ => .ok (.tuple #[x, tmps.getD u undef, tmps.getD v undef]) w₂ := by
  simp only [results, h]
  simp [Sem.run_bind, Result.andThen]
theorem xchk_short {La N Kd G n M en : Nat} (hM : M = if Kd = 2 then 32 * N else 0) (he : en = 7 + M) (h7 : 7 ≤ n) (h : n < en) : xchk (La : Int) (N : Int) (Kd : Int) (G : Int) ((n - 7 : Nat) : Int) = false := by
  cases hx : xchk (La : Int) (N : Int) (Kd : Int) (G : Int) ((n - 7 : Nat) : Int)
  · rfl
  · exfalso
    have := xchk_all hx
    by_cases hk : Kd = 2
    · rw [if_pos hk] at hM
      have := this.2.2.2.2.2.2.2.1 (by omega)
      omega
    · rw [if_neg hk] at hM
      omega
theorem en_int {en M : Nat} (h : en = 7 + M) : 7 + (M : Int) = (en : Int) := by omega
theorem en_lt {en M n : Nat} (h : en = 7 + M) (hf : n < en) : (n : Int) < 7 + (M : Int) := by omega
theorem en_nlt {en M n : Nat} (h : en = 7 + M) (hf : ¬ n < en) : ¬ (n : Int) < 7 + (M : Int) := by omega
theorem en_7 {en M : Nat} (h : en = 7 + M) : 7 ≤ en := by omega
theorem en_sub {en : Nat} (h : 7 ≤ en) : 7 + (en - 7) = en := by omega
theorem la_max {La : Nat} (h : La < 256) : (La : Int) ≤ 9223372036854775807 := by omega
theorem fst_short {b : List UInt8} {n M en : Nat} (HN : b.length = n) (hM' : hM b = M) (h : en = 7 + M) (hf : n < en) : fstX b = none := fst_no (by rw [HN, hM']; omega)
theorem hX_full {b : List UInt8} {n M en : Nat} (HN : b.length = n) (hM' : hM b = M) (h : en = 7 + M) (hf : ¬ n < en) : (hX b).l.length = en - 7 := by
  rw [hX_len (by rw [HN, hM']; omega), hM', h]
  omega
theorem fst_full {b : List UInt8} {n M en : Nat} (HN : b.length = n) (hM' : hM b = M) (h : en = 7 + M) (hf : ¬ n < en) (ho : (hX b).ok = true) : fstX b = some (hX b, b.drop (7 + hM b)) := fst_yes ⟨by rw [HN]; omega, by rw [HN, hM']; omega, ho⟩
theorem dat_full {b : List UInt8} {M en : Nat} (hM' : hM b = M) (h : en = 7 + M) : (b.take en).drop 7 = (hX b).l := by
  rw [h, ← hM', List.drop_take]
  show _ = (b.drop 7).take (hM b)
  congr 1
  omega
theorem min_end (n M : Nat) : ∃ en : Nat, (if (n : Int) < 7 + (M : Int) then (n : Int) else 7 + (M : Int)) = (en : Int) ∧ (7 ≤ n → 7 ≤ en) ∧ en ≤ n ∧ en ≤ 7 + M ∧ (7 + M ≤ n → en = 7 + M) ∧ (¬ 7 + M ≤ n → en < 7 + M) := by
  by_cases h : n < 7 + M
  · exact ⟨n, by rw [if_pos (by omega)], by omega, by omega, by omega, by omega, by omega⟩
  · exact ⟨7 + M, by rw [if_neg (by omega)]; omega, by omega, by omega, by omega, by omega, by omega⟩
theorem wrap7 {M : Nat} (h : M ≤ 8160) : wrap64 (7 + (M : Int)) = 7 + (M : Int) := by unfold wrap64; omega
/-- Leaving with a struct that lives in a block, and two values beside it. -/
theorem ret_blk3x {P : Program} {w : World} {fn : Func} {R : Ending → World → Prop} {tmps : Array Value} {p u x : Tmp} {ty t : TypeId} {g : Nat} {cs : Array Value} {fs : Array Field} {v y : Value} (hr : fn.results = #[.cell p ty, .tmp u, .tmp x]) (hp : tmps.getD p undef = .pointer (some ⟨g, 0, none⟩))
    (hg : Blk w g cs t) (hu : P.underlying ty = some (.struct fs)) (hi : (P.info? ty).map (·.size) = some cs.size) (hv : tmps.getD u undef = v) (hy : tmps.getD x undef = y) (hR : R (.returned (.tuple #[.agg cs, v, y])) w) : bodyPost P fn R .ret ⟨tmps, []⟩ w := by
  refine bodyPost_ret ?_ rfl hR
  rw [results_cell_tmp2x hr, hp, hv, hy]
  simp [asAddr, run_loadVar_row w g t ty cs (0, 0) (.struct fs) hg hu rfl hi, Result.andThen]
/-- Four numbers that a call has made. -/
theorem nums4x {e : TypeId} {w w' : World} {A : Option Addr} {n c : Nat} {x0 x1 x2 x3 : UInt64} (h : Nw e w w' A n c ([x0, x1, x2, x3].map v64)) : ∃ g, A = some ⟨g, 0, none⟩ ∧ n = 4 ∧ 4 ≤ c ∧ c ≤ 9223372036854775807 ∧ w.heap.size ≤ g ∧ g < w'.heap.size ∧
    w'.cell? ⟨g, 0, none⟩ = some (.int .u64 (x0.toNat : Int)) ∧ w'.cell? ⟨g, 1, none⟩ = some (.int .u64 (x1.toNat : Int)) ∧ w'.cell? ⟨g, 2, none⟩ = some (.int .u64 (x2.toNat : Int)) ∧ w'.cell? ⟨g, 3, none⟩ = some (.int .u64 (x3.toNat : Int)) := by
  have hn : 4 = n := by simpa using h.1
  subst hn
  have h' := h
  rcases h.2 with ⟨_, h0⟩ | ⟨g, cap, cur, hv, hb, hg, hnc, hm, _⟩
  · cases h0
  · obtain ⟨rfl, rfl⟩ : A = some ⟨g, 0, none⟩ ∧ c = cap := by simpa using hv
    have hc := World.ownsRow.cells (g := g) h' rfl
    have e : ∀ j, ((⟨g, 0, none⟩ : Addr).add j) = ⟨g, j, none⟩ := fun j => by unfold Addr.add; split <;> simp_all
    refine ⟨g, rfl, rfl, hnc, by simpa [maxLen] using hm, hb, (Array.getElem?_eq_some_iff.1 hg).1, ?_, ?_, ?_, ?_⟩
    · rw [← e]; exact hc 0 _ rfl
    · rw [← e]; exact hc 1 _ rfl
    · rw [← e]; exact hc 2 _ rfl
    · rw [← e]; exact hc 3 _ rfl
theorem nums1x {e : TypeId} {w w' : World} {A : Option Addr} {n c : Nat} {x0 : UInt64} (h : Nw e w w' A n c ([x0].map v64)) : ∃ g, A = some ⟨g, 0, none⟩ ∧ n = 1 ∧ 1 ≤ c ∧ c ≤ 9223372036854775807 ∧ w.heap.size ≤ g ∧ g < w'.heap.size ∧
    w'.cell? ⟨g, 0, none⟩ = some (.int .u64 (x0.toNat : Int)) := by
  have hn : 1 = n := by simpa using h.1
  subst hn
  have h' := h
  rcases h.2 with ⟨_, h0⟩ | ⟨g, cap, cur, hv, hb, hg, hnc, hm, _⟩
  · cases h0
  · obtain ⟨rfl, rfl⟩ : A = some ⟨g, 0, none⟩ ∧ c = cap := by simpa using hv
    have hc := World.ownsRow.cells (g := g) h' rfl
    have e : ∀ j, ((⟨g, 0, none⟩ : Addr).add j) = ⟨g, j, none⟩ := fun j => by unfold Addr.add; split <;> simp_all
    refine ⟨g, rfl, rfl, hnc, by simpa [maxLen] using hm, hb, (Array.getElem?_eq_some_iff.1 hg).1, ?_⟩
    rw [← e]; exact hc 0 _ rfl
end Go.Wag
namespace Go.Proofs.Ytepaojegcaapfaa
open Go.RowKit Go.Wag
set_option linter.unusedVariables false
set_option maxRecDepth 20000
/-- What first answers: an extent in memory of its own, and the rest of what came in; or none. -/
def FstPost (w : World) (A : Option Addr) (n c : Nat) (r : Option (Xp × List UInt8)) (e : Ending) (w' : World) : Prop :=
  match r with
  | none => e = .returned (.tuple #[.agg #[.int .i64 0, .int .i64 0, .int .i64 0, .int .i64 0, .slice none 0 0], .slice none 0 0, .bool false]) ∧ Below w.heap.size w w'
  | some y => ∃ A' c', e = .returned (.tuple #[.agg #[.int .i64 y.1.la, .int .i64 y.1.n, .int .i64 y.1.k, .int .i64 y.1.g, .slice A' y.1.l.length c'], .slice (cutA A c (7 + y.1.l.length)) (n - (7 + y.1.l.length)) (c - (7 + y.1.l.length)), .bool true]) ∧ Nw 5 w w' A' y.1.l.length c' (y.1.l.map v8) ∧ Below w.heap.size w w'
theorem FstPost.mkNo {w w' : World} {A : Option Addr} {n c : Nat} {r : Option (Xp × List UInt8)} (hr : r = none) (hb : Below w.heap.size w w') : FstPost w A n c r (.returned (.tuple #[.agg #[.int .i64 0, .int .i64 0, .int .i64 0, .int .i64 0, .slice none 0 0], .slice none 0 0, .bool false])) w' := by
  subst hr
  exact ⟨rfl, hb⟩
theorem FstPost.mkYes {w w' : World} {A : Option Addr} {n c m : Nat} {r : Option (Xp × List UInt8)} {x : Xp} {t : List UInt8} {A' : Option Addr} {c' d : Nat} {la n1 k g : Int} (hr : r = some (x, t)) (h1 : x.la = la) (h2 : x.n = n1) (h3 : x.k = k) (h4 : x.g = g) (hd : x.l.length = d) (hm : 7 + d = m) (hN : Nw 5 w w' A' d c' (x.l.map v8)) (hb : Below w.heap.size w w') :
    FstPost w A n c r (.returned (.tuple #[.agg #[.int .i64 la, .int .i64 n1, .int .i64 k, .int .i64 g, .slice A' d c'], .slice (cutA A c m) (n - m) (c - m), .bool true])) w' := by
  subst hr h1 h2 h3 h4 hd hm
  exact ⟨A', c', rfl, hN, hb⟩
theorem FstPost.ok {P : Program} {f : FuncId} {args : Array Value} {w : World} {A : Option Addr} {n c : Nat} {r : Option (Xp × List UInt8)} {y : Xp × List UInt8} (h : Calls P f args w (FstPost w A n c r)) (hr : r = some y) : Calls P f args w (FstPost w A n c (some y)) := by
  subst hr
  exact h
theorem FstPost.no {P : Program} {f : FuncId} {args : Array Value} {w : World} {A : Option Addr} {n c : Nat} {r : Option (Xp × List UInt8)} (h : Calls P f args w (FstPost w A n c r)) (hr : r = none) : Calls P f args w (FstPost w A n c none) := by
  subst hr
  exact h
set_option maxHeartbeats 4000000 in
theorem eFirst_any (A : Option Addr) (n c : Nat) (b : List UInt8) (w : World) (h : Sl w A n c (b.map v8)) (hn : n ≤ 10000000000000) :
    Calls Try.prog 51 #[.slice A n c] w (FstPost w A n c (fstX b)) := by
  have HN : Hid (b.length = n) := h.len8
  have hcap := h.cap
  have hbig := h.big
  have bb := (Below.refl w.heap.size w).alloc (Nat.le_refl _) (.cells #[.int .i64 0, .int .i64 0, .int .i64 0, .int .i64 0, .slice none 0 0] 38)
  have U := Blk.new w #[.int .i64 0, .int .i64 0, .int .i64 0, .int .i64 0, .slice none 0 0] 38
  have HU := h.alloc (.cells #[.int .i64 0, .int .i64 0, .int .i64 0, .int .i64 0, .slice none 0 0] 38)
  by_cases h7 : (n : Int) < 7
  · have hr : Hid (fstX b = none) := fst_no (by rw [HN.out]; omega)
    go_enter Try.func51, Try.ntmps51
    go_wp2_with fail
    refine (NumsErr.no (Unpack_any ⟨#[98, 98, 98, 119]⟩ A n c b _ HU (by decide)) (xunpack_short (by rw [HN.out]; omega))).mono ?_
    rintro e w2 ⟨A2, n2, c2, rfl, s2, f2, b2⟩
    replace U := U.under b2
    replace bb := bb.trans (b2.mono bb.size)
    clear b2 s2 f2
    obtain ⟨z0, z1, z2, z3, z4, u0, u1, u2, u3, u4⟩ := U.five
    go_wp2
    try simp only [Exit.inBlock, Exit.then]
    exact ret_blk3x rfl rfl (((((U.set 0 (_)).set 1 (_)).set 2 (_)).set 3 (_)).set 4 (_)) Try.underlying38 (by kernel_rfl) rfl rfl (FstPost.mkNo hr.out (((((bb.setCell (p := ⟨w.heap.size, 0, none⟩) (Nat.le_refl _) (_)).setCell (p := ⟨w.heap.size, 1, none⟩) (Nat.le_refl _) (_)).setCell (p := ⟨w.heap.size, 2, none⟩) (Nat.le_refl _) (_)).setCell (p := ⟨w.heap.size, 3, none⟩) (Nat.le_refl _) (_)).setCell (p := ⟨w.heap.size, 4, none⟩) (Nat.le_refl _) (_)))
  have HU7 := HU.upto (m := 7) (by omega)
  rw [← List.map_take] at HU7
  have h7n : (7 : Int) ≤ n := by omega
  go_enter Try.func51, Try.ntmps51
  go_wp2_with fail
  refine (NumsErr.ok (Unpack_any ⟨#[98, 98, 98, 119]⟩ A 7 c (b.take 7) _ HU7 (by decide)) (xunpack_head (by rw [HN.out]; omega))).mono ?_
  rintro e w2 ⟨A2, n2, c2, rfl, s2, f2, b2⟩
  obtain ⟨g, rfl, rfl, hc4, hcb, hg0, hg1, g0, g1, g2, g3⟩ := nums4x f2
  have lLa := hLa_lt b
  have lN := hN_lt b
  have lK := hK_lt b
  have lG := hG_lt b
  rw [xnat64 (Nat.lt_of_lt_of_le lLa (by decide))] at g0
  rw [xnat64 (Nat.lt_of_lt_of_le lN (by decide))] at g1
  rw [xnat64 (Nat.lt_of_lt_of_le lK (by decide))] at g2
  rw [xnat64 (Nat.lt_of_lt_of_le lG (by decide))] at g3
  clear s2 f2 HU HU7
  replace U := U.under b2
  replace bb := bb.trans (b2.mono bb.size)
  replace hg0 : w.heap.size + 1 ≤ g := by simpa using hg0
  clear b2
  have hX0 : Hid ((hX b).la = (hLa b : Int) ∧ (hX b).n = (hN b : Int) ∧ (hX b).k = (hK b : Int) ∧ (hX b).g = (hG b : Int)) := ⟨rfl, rfl, rfl, rfl⟩
  have hMd : Hid (hM b = if hK b = 2 then 32 * hN b else 0) := rfl
  obtain ⟨La, HL⟩ : ∃ M, Hid (hLa b = M) := ⟨_, rfl⟩
  obtain ⟨N, HNn⟩ : ∃ M, Hid (hN b = M) := ⟨_, rfl⟩
  obtain ⟨Kd, HK⟩ : ∃ M, Hid (hK b = M) := ⟨_, rfl⟩
  obtain ⟨G, HG⟩ : ∃ M, Hid (hG b = M) := ⟨_, rfl⟩
  rw [HL.out] at g0 lLa
  rw [HNn.out] at g1 lN
  rw [HK.out] at g2 lK
  rw [HG.out] at g3 lG
  replace hX0 := hX0.out
  rw [HL.out, HNn.out, HK.out, HG.out] at hX0
  replace hX0 := Lib.hid hX0
  replace hMd := hMd.out
  rw [HNn.out, HK.out] at hMd
  clear HL HNn HK HG
  have j0 : wrap64 (La : Int) = La := by unfold wrap64; omega
  have j1 : wrap64 (N : Int) = N := by unfold wrap64; omega
  have j2 : wrap64 (Kd : Int) = Kd := by unfold wrap64; omega
  have j3 : wrap64 (G : Int) = G := by unfold wrap64; omega
  have i0 : IntKind.i64.wrap (La : Int) = La := (IntWalk.i64_left _).trans j0
  have i1 : IntKind.i64.wrap (N : Int) = N := (IntWalk.i64_left _).trans j1
  have i2 : IntKind.i64.wrap (Kd : Int) = Kd := (IntWalk.i64_left _).trans j2
  have i3 : IntKind.i64.wrap (G : Int) = G := (IntWalk.i64_left _).trans j3
  clear j0 j1 j2 j3
  obtain ⟨M, hMM⟩ : ∃ M, hM b = M := ⟨_, rfl⟩
  have hdb : dbF (Kd : Int) (N : Int) = (M : Int) := by
    rw [← hMM, hMd]
    unfold dbF
    by_cases hk : Kd = 2
    · rw [if_pos (by omega), if_pos hk]
      unfold wrap64
      omega
    · rw [if_neg (by omega), if_neg hk]
      rfl
  have hMl : M ≤ 8160 := by rw [← hMM]; exact hM_le b
  rw [hMM] at hMd
  replace hMM := Lib.hid hMM
  replace hMd := Lib.hid hMd
  go_wp2_with fail
  refine wp_region_held_drew (S := fun w' => Below w2.heap.size w2 w') (by kernel_rfl) (Below.refl _ _).drew (fun hHeld => ?_)
  try dsimp only at hHeld
  have bd : Below w2.heap.size w2 w2.drew := (Below.refl w2.heap.size w2).drew
  generalize w2.drew = wd at *
  try simp only [Act.put, List.setIfInBounds_toArray, List.set_cons_zero, List.set_cons_succ]
  refine wpAnyH_take (i := 0) (v := ?_) (by simp only [List.getElem?_toArray, List.getElem?_cons_zero]; rfl) (by kernel_rfl) (by kernel_rfl) (by kernel_rfl) (by intro _ _ _ h; exact h) (Or.inl ⟨by rfl, ?_⟩) hHeld ?_
  rotate_left 1
  · intro wq hSw
    try dsimp only at hSw
    go_simp
    try (with_reducible rfl)
  try simp only [Act.put, List.setIfInBounds_toArray, List.set_cons_zero, List.set_cons_succ]
  refine wpAnyH_take (i := 1) (v := ?_) (by simp only [List.getElem?_toArray, List.getElem?_cons_succ, List.getElem?_cons_zero]; rfl) (by kernel_rfl) (by kernel_rfl) (by kernel_rfl) (by intro _ _ _ h; exact h) (Or.inl ⟨by rfl, ?_⟩) hHeld ?_
  rotate_left 1
  · intro wq hSw
    try dsimp only at hSw
    go_simp
    try (with_reducible rfl)
  try simp only [Act.put, List.setIfInBounds_toArray, List.set_cons_zero, List.set_cons_succ]
  refine wpAnyH_take (i := 2) (v := ?_) (by simp only [List.getElem?_toArray, List.getElem?_cons_succ, List.getElem?_cons_zero]; rfl) (by kernel_rfl) (by kernel_rfl) (by kernel_rfl) (by intro _ _ _ h; exact h) (Or.inl ⟨by rfl, ?_⟩) hHeld ?_
  rotate_left 1
  · intro wq hSw
    try dsimp only at hSw
    have x := (hSw.cell (p := ⟨g, 0, none⟩) hg1).trans g0
    go_simp
    try (with_reducible rfl)
  try simp only [Act.put, List.setIfInBounds_toArray, List.set_cons_zero, List.set_cons_succ]
  refine wpAnyH_take (i := 3) (v := ?_) (by simp only [List.getElem?_toArray, List.getElem?_cons_succ, List.getElem?_cons_zero]; rfl) (by kernel_rfl) (by kernel_rfl) (by kernel_rfl) (by intro _ _ _ h; exact h) (Or.inl ⟨by rfl, ?_⟩) hHeld ?_
  rotate_left 1
  · intro wq hSw
    try dsimp only at hSw
    go_simp
    try (with_reducible rfl)
  try simp only [Act.put, List.setIfInBounds_toArray, List.set_cons_zero, List.set_cons_succ]
  refine wpAnyH_take (i := 4) (v := ?_) (by simp only [List.getElem?_toArray, List.getElem?_cons_succ, List.getElem?_cons_zero]; rfl) (by kernel_rfl) (by kernel_rfl) (by kernel_rfl) (by intro _ _ _ h; exact h) (Or.inl ⟨by rfl, ?_⟩) hHeld ?_
  rotate_left 1
  · intro wq hSw
    try dsimp only at hSw
    go_simp
    try (with_reducible rfl)
  try simp only [Act.put, List.setIfInBounds_toArray, List.set_cons_zero, List.set_cons_succ]
  refine wpAnyH_take (i := 5) (v := ?_) (by simp only [List.getElem?_toArray, List.getElem?_cons_succ, List.getElem?_cons_zero]; rfl) (by kernel_rfl) (by kernel_rfl) (by kernel_rfl) (by intro _ _ _ h; exact h) (Or.inl ⟨by rfl, ?_⟩) hHeld ?_
  rotate_left 1
  · intro wq hSw
    try dsimp only at hSw
    go_simp
    try (with_reducible rfl)
  try simp only [Act.put, List.setIfInBounds_toArray, List.set_cons_zero, List.set_cons_succ]
  refine wpAnyH_take (i := 6) (v := ?_) (by simp only [List.getElem?_toArray, List.getElem?_cons_succ, List.getElem?_cons_zero]; rfl) (by kernel_rfl) (by kernel_rfl) (by kernel_rfl) (by intro _ _ _ h; exact h) (Or.inl ⟨by rfl, ?_⟩) hHeld ?_
  rotate_left 1
  · intro wq hSw
    try dsimp only at hSw
    have x := (hSw.cell (p := ⟨g, 1, none⟩) hg1).trans g1
    go_simp
    try (with_reducible rfl)
  try simp only [Act.put, List.setIfInBounds_toArray, List.set_cons_zero, List.set_cons_succ]
  refine wpAnyH_take (i := 7) (v := ?_) (by simp only [List.getElem?_toArray, List.getElem?_cons_succ, List.getElem?_cons_zero]; rfl) (by kernel_rfl) (by kernel_rfl) (by kernel_rfl) (by intro _ _ _ h; exact h) (Or.inl ⟨by rfl, ?_⟩) hHeld ?_
  rotate_left 1
  · intro wq hSw
    try dsimp only at hSw
    go_simp
    try (with_reducible rfl)
  try simp only [Act.put, List.setIfInBounds_toArray, List.set_cons_zero, List.set_cons_succ]
  refine wpAnyH_take (i := 8) (v := ?_) (by simp only [List.getElem?_toArray, List.getElem?_cons_succ, List.getElem?_cons_zero]; rfl) (by kernel_rfl) (by kernel_rfl) (by kernel_rfl) (by intro _ _ _ h; exact h) (Or.inl ⟨by rfl, ?_⟩) hHeld ?_
  rotate_left 1
  · intro wq hSw
    try dsimp only at hSw
    go_simp
    try (with_reducible rfl)
  try simp only [Act.put, List.setIfInBounds_toArray, List.set_cons_zero, List.set_cons_succ]
  refine wpAnyH_take (i := 9) (v := ?_) (by simp only [List.getElem?_toArray, List.getElem?_cons_succ, List.getElem?_cons_zero]; rfl) (by kernel_rfl) (by kernel_rfl) (by kernel_rfl) (by intro _ _ _ h; exact h) (Or.inl ⟨by rfl, ?_⟩) hHeld ?_
  rotate_left 1
  · intro wq hSw
    try dsimp only at hSw
    go_simp
    try (with_reducible rfl)
  try simp only [Act.put, List.setIfInBounds_toArray, List.set_cons_zero, List.set_cons_succ]
  refine wpAnyH_take (i := 10) (v := ?_) (by simp only [List.getElem?_toArray, List.getElem?_cons_succ, List.getElem?_cons_zero]; rfl) (by kernel_rfl) (by kernel_rfl) (by kernel_rfl) (by intro _ _ _ h; exact h) (Or.inl ⟨by rfl, ?_⟩) hHeld ?_
  rotate_left 1
  · intro wq hSw
    try dsimp only at hSw
    have x := (hSw.cell (p := ⟨g, 2, none⟩) hg1).trans g2
    go_simp
    try (with_reducible rfl)
  try simp only [Act.put, List.setIfInBounds_toArray, List.set_cons_zero, List.set_cons_succ]
  refine wpAnyH_take (i := 11) (v := ?_) (by simp only [List.getElem?_toArray, List.getElem?_cons_succ, List.getElem?_cons_zero]; rfl) (by kernel_rfl) (by kernel_rfl) (by kernel_rfl) (by intro _ _ _ h; exact h) (Or.inl ⟨by rfl, ?_⟩) hHeld ?_
  rotate_left 1
  · intro wq hSw
    try dsimp only at hSw
    go_simp
    try (with_reducible rfl)
  try simp only [Act.put, List.setIfInBounds_toArray, List.set_cons_zero, List.set_cons_succ]
  refine wpAnyH_take (i := 12) (v := ?_) (by simp only [List.getElem?_toArray, List.getElem?_cons_succ, List.getElem?_cons_zero]; rfl) (by kernel_rfl) (by kernel_rfl) (by kernel_rfl) (by intro _ _ _ h; exact h) (Or.inl ⟨by rfl, ?_⟩) hHeld ?_
  rotate_left 1
  · intro wq hSw
    try dsimp only at hSw
    go_simp
    try (with_reducible rfl)
  try simp only [Act.put, List.setIfInBounds_toArray, List.set_cons_zero, List.set_cons_succ]
  refine wpAnyH_take (i := 13) (v := ?_) (by simp only [List.getElem?_toArray, List.getElem?_cons_succ, List.getElem?_cons_zero]; rfl) (by kernel_rfl) (by kernel_rfl) (by kernel_rfl) (by intro _ _ _ h; exact h) (Or.inl ⟨by rfl, ?_⟩) hHeld ?_
  rotate_left 1
  · intro wq hSw
    try dsimp only at hSw
    go_simp
    try (with_reducible rfl)
  try simp only [Act.put, List.setIfInBounds_toArray, List.set_cons_zero, List.set_cons_succ]
  refine wpAnyH_take (i := 14) (v := ?_) (by simp only [List.getElem?_toArray, List.getElem?_cons_succ, List.getElem?_cons_zero]; rfl) (by kernel_rfl) (by kernel_rfl) (by kernel_rfl) (by intro _ _ _ h; exact h) (Or.inl ⟨by rfl, ?_⟩) hHeld ?_
  rotate_left 1
  · intro wq hSw
    try dsimp only at hSw
    have x := (hSw.cell (p := ⟨g, 3, none⟩) hg1).trans g3
    go_simp
    try (with_reducible rfl)
  try simp only [Act.put, List.setIfInBounds_toArray, List.set_cons_zero, List.set_cons_succ]
  refine wpAnyH_take (i := 15) (v := ?_) (by simp only [List.getElem?_toArray, List.getElem?_cons_succ, List.getElem?_cons_zero]; rfl) (by kernel_rfl) (by kernel_rfl) (by kernel_rfl) (by intro _ _ _ h; exact h) (Or.inl ⟨by rfl, ?_⟩) hHeld ?_
  rotate_left 1
  · intro wq hSw
    try dsimp only at hSw
    go_simp
    try (with_reducible rfl)
  try simp only [Act.put, List.setIfInBounds_toArray, List.set_cons_zero, List.set_cons_succ]
  refine wpAnyH_take (i := 16) (v := ?_) (by simp only [List.getElem?_toArray, List.getElem?_cons_succ, List.getElem?_cons_zero]; rfl) (by kernel_rfl) (by kernel_rfl) (by kernel_rfl) (by intro _ _ _ h; exact h) (Or.inl ⟨by rfl, ?_⟩) hHeld ?_
  rotate_left 1
  · intro wq hSw
    try dsimp only at hSw
    go_simp
    try (with_reducible rfl)
  try simp only [Act.put, List.setIfInBounds_toArray, List.set_cons_zero, List.set_cons_succ]
  refine wpAnyH_ready (rs := [17]) (by kernel_rfl) (by simp) ?_
  refine AllReadyH.cons (by simp only [List.getElem?_toArray, List.getElem?_cons_succ, List.getElem?_cons_zero]; rfl) (fun K hK => ?_) AllReadyH.nil
  obtain ⟨kv, hkv⟩ : ∃ k, wd.heap.size = k := ⟨_, rfl⟩
  go_simp
  try simp only [hkv]
  have X := Blk.new wd #[.int .i64 0, .int .i64 0, .int .i64 0, .int .i64 0, .slice none 0 0] 38
  rw [hkv] at X
  have hcv : w2.heap.size ≤ kv := by rw [← hkv]; exact bd.size
  replace bd := bd.alloc bd.size (.cells #[.int .i64 0, .int .i64 0, .int .i64 0, .int .i64 0, .slice none 0 0] 38)
  clear hkv
  generalize wd.alloc (.cells #[.int .i64 0, .int .i64 0, .int .i64 0, .int .i64 0, .slice none 0 0] 38) = wu at *
  refine hK.out _ _ (bd) (fun hHeld => ?_)
  clear hK K
  try dsimp only at hHeld
  try simp only [Act.put, List.setIfInBounds_toArray, List.set_cons_zero, List.set_cons_succ]
  refine wpAnyH_ready (rs := [18]) (by kernel_rfl) (by simp) ?_
  refine AllReadyH.cons (by simp only [List.getElem?_toArray, List.getElem?_cons_succ, List.getElem?_cons_zero]; rfl) (fun K hK => ?_) AllReadyH.nil
  obtain ⟨z0, z1, z2, z3, z4, y0, y1, y2, y3, y4⟩ := X.five
  go_simp
  have X2 := (((((X.set 0 (.int .i64 (La : Int))).set 1 (.int .i64 (N : Int))).set 2 (.int .i64 (Kd : Int))).set 3 (.int .i64 (G : Int))).set 4 (.slice none 0 0))
  simp only [List.setIfInBounds_toArray, List.set_cons_zero, List.set_cons_succ] at X2
  have bd2 := (((((bd.setCell (p := ⟨kv, 0, none⟩) (hcv) (.int .i64 (La : Int))).setCell (p := ⟨kv, 1, none⟩) (hcv) (.int .i64 (N : Int))).setCell (p := ⟨kv, 2, none⟩) (hcv) (.int .i64 (Kd : Int))).setCell (p := ⟨kv, 3, none⟩) (hcv) (.int .i64 (G : Int))).setCell (p := ⟨kv, 4, none⟩) (hcv) (.slice none 0 0))
  clear z0 z1 z2 z3 z4 y0 y1 y2 y3 y4 X bd
  generalize (((((wu.setCell ⟨kv, 0, none⟩ (.int .i64 (La : Int))).setCell ⟨kv, 1, none⟩ (.int .i64 (N : Int))).setCell ⟨kv, 2, none⟩ (.int .i64 (Kd : Int))).setCell ⟨kv, 3, none⟩ (.int .i64 (G : Int))).setCell ⟨kv, 4, none⟩ (.slice none 0 0)) = wv at *
  refine hK.out _ _ (bd2) (fun hHeld => ?_)
  clear hK K
  try dsimp only at hHeld
  try simp only [Act.put, List.setIfInBounds_toArray, List.set_cons_zero, List.set_cons_succ]
  refine wpAnyH_done (by kernel_rfl) ?_ _
  have hwk : w.heap.size < kv := Nat.lt_of_lt_of_le U.lt hcv
  have hUk : w.heap.size ≠ kv := Nat.ne_of_lt hwk
  replace hwk := Nat.le_of_lt hwk
  replace U := U.under bd2
  replace bb := bb.trans (bd2.mono bb.size)
  clear bd2 g0 g1 g2 g3 i0 i1 i2 i3 hcv hc4 hcb hg0 hg1
  obtain ⟨x0', x1', x2', x3', x4', _⟩ := X2.five
  obtain ⟨en, hen⟩ : ∃ en : Nat, Hid (en = 7 + M) := ⟨_, rfl⟩
  have j0 : wrap64 (7 + (M : Int)) = (en : Int) := (wrap7 hMl).trans (en_int hen.out)
  have j1 : IntKind.i64.wrap (7 + (M : Int)) = (en : Int) := (IntWalk.i64_left _).trans j0
  replace hMl := Lib.hid hMl
  have heI : Hid (7 + (M : Int) = (en : Int)) := en_int hen.out
  by_cases hfit : n < en
  · skip
    have hc : (n : Int) < (en : Int) := Int.ofNat_lt.2 hfit
    go_wp2_with fail
    refine (eData_any (Kd : Int) (N : Int) wv).mono ?_
    rintro e w3 ⟨rfl, rfl⟩
    rw [hdb]
    go_upto_region 6 with (fail)
    have he7 : 7 ≤ n := Int.ofNat_le.1 h7n
    have hel : n ≤ n := Nat.le_refl _
    have hcut := fun W => run_cut2 (P := Try.prog) 23 5 un22 el22 sz5 A n c .i64 .i64 (7 : Int) ((n : Int)) 7 n rfl rfl he7 (Nat.le_trans hel hcap) W
    have HB := (h.below bb).cut he7 hel
    rw [← List.map_take, ← List.map_drop] at HB
    clear hdb hc j0 j1
    go_wp2_with fail
    refine (eCopied_any (cutA A c 7) (n - 7) (c - 7) _ w3 HB (Nat.le_trans (Nat.sub_le _ _) (Nat.le_trans hel hn))).mono ?_
    rintro e w4 ⟨A4, c4, rfl, N4, b4⟩
    have hfk : ∀ ad, A4 = some ad → ad.block ≠ kv := fun ad e => Nat.ne_of_gt (Nat.lt_of_lt_of_le X2.lt (N4.fr ad e))
    have hfU : ∀ ad, A4 = some ad → ad.block ≠ w.heap.size := fun ad e => Nat.ne_of_gt (Nat.lt_of_lt_of_le U.lt (N4.fr ad e))
    replace N4 : Nw 5 w w4 A4 (n - 7) c4 _ := Nw.mono (w1 := w3) N4 bb.size
    replace X2 := X2.under b4
    replace U := U.under b4
    replace bb := bb.trans (b4.mono bb.size)
    clear b4 HB hcut x0' x1' x2' x3' x4'
    obtain ⟨x0', x1', x2', x3', x4', f0, f1, f2, f3, f4⟩ := X2.five
    go_upto_region 7 with (fail)
    replace X2 := X2.set 4 (.slice A4 (n - 7) c4)
    simp only [List.setIfInBounds_toArray, List.set_cons_zero, List.set_cons_succ] at X2
    replace U := U.far (a := ⟨kv, 4, none⟩) hUk (.slice A4 (n - 7) c4)
    replace N4 := N4.far (a := ⟨kv, 4, none⟩) hfk (.slice A4 (n - 7) c4)
    replace bb := bb.setCell (p := ⟨kv, 4, none⟩) hwk (.slice A4 (n - 7) c4)
    generalize w4.setCell ⟨kv, 4, none⟩ (.slice A4 (n - 7) c4) = w5 at *
    clear x0' x1' x2' x3' x4' f0 f1 f2 f3 f4
    obtain ⟨x0', x1', x2', x3', x4', _⟩ := X2.five
    go_wp2_with fail
    refine (eCheck_any (La : Int) (N : Int) (Kd : Int) (G : Int) A4 (n - 7) c4 w5 (la_max lLa)).mono ?_
    rintro e w6 ⟨rfl, b6⟩
    replace X2 := X2.under b6
    replace U := U.under b6
    replace N4 := N4.below b6
    replace bb := bb.trans (b6.mono bb.size)
    clear b6 x0' x1' x2' x3' x4'
    have hx : xchk (La : Int) (N : Int) (Kd : Int) (G : Int) ((n - 7 : Nat) : Int) = false := xchk_short hMd.out hen.out he7 hfit
    rw [hx]
    have hr : Hid (fstX b = none) := fst_short HN.out hMM.out hen.out hfit
    obtain ⟨z0, z1, z2, z3, z4, u0, u1, u2, u3, u4⟩ := U.five
    go_wp2
    try simp only [Exit.inBlock, Exit.then]
    exact ret_blk3x rfl rfl (((((U.set 0 (_)).set 1 (_)).set 2 (_)).set 3 (_)).set 4 (_)) Try.underlying38 (by kernel_rfl) rfl rfl (FstPost.mkNo hr.out (((((bb.setCell (p := ⟨w.heap.size, 0, none⟩) (Nat.le_refl _) (_)).setCell (p := ⟨w.heap.size, 1, none⟩) (Nat.le_refl _) (_)).setCell (p := ⟨w.heap.size, 2, none⟩) (Nat.le_refl _) (_)).setCell (p := ⟨w.heap.size, 3, none⟩) (Nat.le_refl _) (_)).setCell (p := ⟨w.heap.size, 4, none⟩) (Nat.le_refl _) (_)))
  · skip
    have hc : ¬ (n : Int) < (en : Int) := fun hh => hfit (Int.ofNat_lt.1 hh)
    go_wp2_with fail
    refine (eData_any (Kd : Int) (N : Int) wv).mono ?_
    rintro e w3 ⟨rfl, rfl⟩
    rw [hdb]
    go_upto_region 6 with (fail)
    have he7 : 7 ≤ en := en_7 hen.out
    have hel : en ≤ n := Nat.le_of_not_lt hfit
    have hcut := fun W => run_cut2 (P := Try.prog) 23 5 un22 el22 sz5 A n c .i64 .i64 (7 : Int) ((en : Int)) 7 en rfl rfl he7 (Nat.le_trans hel hcap) W
    have HB := (h.below bb).cut he7 hel
    rw [← List.map_take, ← List.map_drop] at HB
    clear hdb hc j0 j1
    go_wp2_with fail
    refine (eCopied_any (cutA A c 7) (en - 7) (c - 7) _ w3 HB (Nat.le_trans (Nat.sub_le _ _) (Nat.le_trans hel hn))).mono ?_
    rintro e w4 ⟨A4, c4, rfl, N4, b4⟩
    have hfk : ∀ ad, A4 = some ad → ad.block ≠ kv := fun ad e => Nat.ne_of_gt (Nat.lt_of_lt_of_le X2.lt (N4.fr ad e))
    have hfU : ∀ ad, A4 = some ad → ad.block ≠ w.heap.size := fun ad e => Nat.ne_of_gt (Nat.lt_of_lt_of_le U.lt (N4.fr ad e))
    replace N4 : Nw 5 w w4 A4 (en - 7) c4 _ := Nw.mono (w1 := w3) N4 bb.size
    replace X2 := X2.under b4
    replace U := U.under b4
    replace bb := bb.trans (b4.mono bb.size)
    clear b4 HB hcut x0' x1' x2' x3' x4'
    obtain ⟨x0', x1', x2', x3', x4', f0, f1, f2, f3, f4⟩ := X2.five
    go_upto_region 7 with (fail)
    replace X2 := X2.set 4 (.slice A4 (en - 7) c4)
    simp only [List.setIfInBounds_toArray, List.set_cons_zero, List.set_cons_succ] at X2
    replace U := U.far (a := ⟨kv, 4, none⟩) hUk (.slice A4 (en - 7) c4)
    replace N4 := N4.far (a := ⟨kv, 4, none⟩) hfk (.slice A4 (en - 7) c4)
    replace bb := bb.setCell (p := ⟨kv, 4, none⟩) hwk (.slice A4 (en - 7) c4)
    generalize w4.setCell ⟨kv, 4, none⟩ (.slice A4 (en - 7) c4) = w5 at *
    clear x0' x1' x2' x3' x4' f0 f1 f2 f3 f4
    obtain ⟨x0', x1', x2', x3', x4', _⟩ := X2.five
    go_wp2_with fail
    refine (eCheck_any (La : Int) (N : Int) (Kd : Int) (G : Int) A4 (en - 7) c4 w5 (la_max lLa)).mono ?_
    rintro e w6 ⟨rfl, b6⟩
    replace X2 := X2.under b6
    replace U := U.under b6
    replace N4 := N4.below b6
    replace bb := bb.trans (b6.mono bb.size)
    clear b6 x0' x1' x2' x3' x4'
    have hlX : (hX b).l.length = en - 7 := hX_full HN.out hMM.out hen.out hfit
    have hok : (hX b).ok = xchk (La : Int) (N : Int) (Kd : Int) (G : Int) ((en - 7 : Nat) : Int) := by unfold Xp.ok; rw [hlX, hX0.out.1, hX0.out.2.1, hX0.out.2.2.1, hX0.out.2.2.2]
    cases r1 : xchk (La : Int) (N : Int) (Kd : Int) (G : Int) ((en - 7 : Nat) : Int)
    · have hr : Hid (fstX b = none) := fst_no (by rw [hok, r1]; simp)
      clear hok
      obtain ⟨z0, z1, z2, z3, z4, u0, u1, u2, u3, u4⟩ := U.five
      go_wp2
      try simp only [Exit.inBlock, Exit.then]
      exact ret_blk3x rfl rfl (((((U.set 0 (_)).set 1 (_)).set 2 (_)).set 3 (_)).set 4 (_)) Try.underlying38 (by kernel_rfl) rfl rfl (FstPost.mkNo hr.out (((((bb.setCell (p := ⟨w.heap.size, 0, none⟩) (Nat.le_refl _) (_)).setCell (p := ⟨w.heap.size, 1, none⟩) (Nat.le_refl _) (_)).setCell (p := ⟨w.heap.size, 2, none⟩) (Nat.le_refl _) (_)).setCell (p := ⟨w.heap.size, 3, none⟩) (Nat.le_refl _) (_)).setCell (p := ⟨w.heap.size, 4, none⟩) (Nat.le_refl _) (_)))
    · skip
      have hr := Lib.hid (fst_full HN.out hMM.out hen.out hfit (by rw [hok, r1]))
      have hdat : (b.take en).drop 7 = (hX b).l := dat_full hMM.out hen.out
      rw [hdat] at N4
      clear hdat hok
      have hcut := fun W => run_cut (P := Try.prog) 23 5 un22 el22 sz5 A n c .i64 (en : Int) en rfl hel W
      go_wp2_with fail
      refine wp_region_held_drew (S := fun w' => Below w.heap.size w6 w' ∧ Blk w' kv #[.int .i64 (La : Int), .int .i64 (N : Int), .int .i64 (Kd : Int), .int .i64 (G : Int), .slice A4 (en - 7) c4] 38) (by kernel_rfl) ⟨(Below.refl _ _).drew, X2.drew⟩ (fun hHeld => ?_)
      try dsimp only at hHeld
      have bd : Below w.heap.size w6 w6.drew := (Below.refl w.heap.size w6).drew
      replace U := U.drew
      replace X2 := X2.drew
      replace N4 : Nw _ _ _ _ _ _ _ := World.ownsRow.drew N4
      generalize w6.drew = wd at *
      try simp only [Act.put, List.setIfInBounds_toArray, List.set_cons_zero, List.set_cons_succ]
      refine wpAnyH_take (i := 0) (v := ?_) (by simp only [List.getElem?_toArray, List.getElem?_cons_zero]; rfl) (by kernel_rfl) (by kernel_rfl) (by kernel_rfl) (by intro _ _ _ h; exact h) (Or.inl ⟨by rfl, ?_⟩) hHeld ?_
      rotate_left 1
      · intro wq hSw
        try dsimp only at hSw
        obtain ⟨x0', x1', x2', x3', x4', _⟩ := hSw.2.five
        go_simp
        try (with_reducible rfl)
      try simp only [Act.put, List.setIfInBounds_toArray, List.set_cons_zero, List.set_cons_succ]
      refine wpAnyH_take (i := 1) (v := ?_) (by simp only [List.getElem?_toArray, List.getElem?_cons_succ, List.getElem?_cons_zero]; rfl) (by kernel_rfl) (by kernel_rfl) (by kernel_rfl) (by intro _ _ _ h; exact h) (Or.inl ⟨by rfl, ?_⟩) hHeld ?_
      rotate_left 1
      · intro wq hSw
        try dsimp only at hSw
        go_simp
        try (with_reducible rfl)
      try simp only [Act.put, List.setIfInBounds_toArray, List.set_cons_zero, List.set_cons_succ]
      refine wpAnyH_take (i := 2) (v := ?_) (by simp only [List.getElem?_toArray, List.getElem?_cons_succ, List.getElem?_cons_zero]; rfl) (by kernel_rfl) (by kernel_rfl) (by kernel_rfl) (by intro _ _ _ h; exact h) (Or.inl ⟨by rfl, ?_⟩) hHeld ?_
      rotate_left 1
      · intro wq hSw
        try dsimp only at hSw
        go_simp
        try (with_reducible rfl)
      try simp only [Act.put, List.setIfInBounds_toArray, List.set_cons_zero, List.set_cons_succ]
      refine wpAnyH_take (i := 3) (v := ?_) (by simp only [List.getElem?_toArray, List.getElem?_cons_succ, List.getElem?_cons_zero]; rfl) (by kernel_rfl) (by kernel_rfl) (by kernel_rfl) (by intro _ _ _ h; exact h) (Or.inl ⟨by rfl, ?_⟩) hHeld ?_
      rotate_left 1
      · intro wq hSw
        try dsimp only at hSw
        go_simp
        try (with_reducible rfl)
      try simp only [Act.put, List.setIfInBounds_toArray, List.set_cons_zero, List.set_cons_succ]
      refine wpAnyH_ready (rs := [4]) (by kernel_rfl) (by simp) ?_
      refine AllReadyH.cons (by simp only [List.getElem?_toArray, List.getElem?_cons_succ, List.getElem?_cons_zero]; rfl) (fun K hK => ?_) AllReadyH.nil
      obtain ⟨z0, z1, z2, z3, z4, y0, y1, y2, y3, y4⟩ := U.five
      go_simp
      have U2 := (((((U.set 0 (.int .i64 (La : Int))).set 1 (.int .i64 (N : Int))).set 2 (.int .i64 (Kd : Int))).set 3 (.int .i64 (G : Int))).set 4 (.slice A4 (en - 7) c4))
      simp only [List.setIfInBounds_toArray, List.set_cons_zero, List.set_cons_succ] at U2
      have bd2 := (((((bd.setCell (p := ⟨w.heap.size, 0, none⟩) (Nat.le_refl _) (.int .i64 (La : Int))).setCell (p := ⟨w.heap.size, 1, none⟩) (Nat.le_refl _) (.int .i64 (N : Int))).setCell (p := ⟨w.heap.size, 2, none⟩) (Nat.le_refl _) (.int .i64 (Kd : Int))).setCell (p := ⟨w.heap.size, 3, none⟩) (Nat.le_refl _) (.int .i64 (G : Int))).setCell (p := ⟨w.heap.size, 4, none⟩) (Nat.le_refl _) (.slice A4 (en - 7) c4))
      have N7 := (((((N4.far (a := ⟨w.heap.size, 0, none⟩) (hfU) (.int .i64 (La : Int))).far (a := ⟨w.heap.size, 1, none⟩) (hfU) (.int .i64 (N : Int))).far (a := ⟨w.heap.size, 2, none⟩) (hfU) (.int .i64 (Kd : Int))).far (a := ⟨w.heap.size, 3, none⟩) (hfU) (.int .i64 (G : Int))).far (a := ⟨w.heap.size, 4, none⟩) (hfU) (.slice A4 (en - 7) c4))
      have X7 := (((((X2.far (a := ⟨w.heap.size, 0, none⟩) (fun e => hUk e.symm) (.int .i64 (La : Int))).far (a := ⟨w.heap.size, 1, none⟩) (fun e => hUk e.symm) (.int .i64 (N : Int))).far (a := ⟨w.heap.size, 2, none⟩) (fun e => hUk e.symm) (.int .i64 (Kd : Int))).far (a := ⟨w.heap.size, 3, none⟩) (fun e => hUk e.symm) (.int .i64 (G : Int))).far (a := ⟨w.heap.size, 4, none⟩) (fun e => hUk e.symm) (.slice A4 (en - 7) c4))
      clear z0 z1 z2 z3 z4 y0 y1 y2 y3 y4 U bd N4 X2
      generalize (((((wd.setCell ⟨w.heap.size, 0, none⟩ (.int .i64 (La : Int))).setCell ⟨w.heap.size, 1, none⟩ (.int .i64 (N : Int))).setCell ⟨w.heap.size, 2, none⟩ (.int .i64 (Kd : Int))).setCell ⟨w.heap.size, 3, none⟩ (.int .i64 (G : Int))).setCell ⟨w.heap.size, 4, none⟩ (.slice A4 (en - 7) c4)) = w7 at *
      refine hK.out _ _ (⟨bd2, X7⟩) (fun hHeld => ?_)
      clear hK K
      try dsimp only at hHeld
      try simp only [Act.put, List.setIfInBounds_toArray, List.set_cons_zero, List.set_cons_succ]
      refine wpAnyH_take (i := 5) (v := ?_) (by simp only [List.getElem?_toArray, List.getElem?_cons_succ, List.getElem?_cons_zero]; rfl) (by kernel_rfl) (by kernel_rfl) (by kernel_rfl) (by intro _ _ _ h; exact h) (Or.inl ⟨by rfl, ?_⟩) hHeld ?_
      rotate_left 1
      · intro wq hSw
        try dsimp only at hSw
        go_simp
        try (with_reducible rfl)
      try simp only [Act.put, List.setIfInBounds_toArray, List.set_cons_zero, List.set_cons_succ]
      refine wpAnyH_take (i := 6) (v := ?_) (by simp only [List.getElem?_toArray, List.getElem?_cons_succ, List.getElem?_cons_zero]; rfl) (by kernel_rfl) (by kernel_rfl) (by kernel_rfl) (by intro _ _ _ h; exact h) (Or.inl ⟨by rfl, ?_⟩) hHeld ?_
      rotate_left 1
      · intro wq hSw
        try dsimp only at hSw
        go_simp
        try (with_reducible rfl)
      try simp only [Act.put, List.setIfInBounds_toArray, List.set_cons_zero, List.set_cons_succ]
      refine wpAnyH_done (by kernel_rfl) ?_ _
      go_wp2
      try simp only [Exit.inBlock, Exit.then]
      exact ret_blk3x rfl rfl U2 Try.underlying38 (by kernel_rfl) rfl rfl (FstPost.mkYes hr.out hX0.out.1 hX0.out.2.1 hX0.out.2.2.1 hX0.out.2.2.2 hlX (en_sub he7) N7 (bb.trans bd2))
end Go.Proofs.Ytepaojegcaapfaa
