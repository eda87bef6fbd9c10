/-
  Contract of package record's Read (written by gen_rec3.py).
-/
import Derived.Test.YtjhpjhgofmlecaaDoorRec2
import Derived.Test.YtjhpjhgofmlecaaDoorDrawn
import Derived.Test.YtjhpjhgofmlecaaDoorJoin
namespace Go.Wag
open Go.RowKit
set_option linter.unusedVariables false
theorem results_cell_tmp2 {fn : Func} {p u v : Tmp} {ty : TypeId} (h : fn.results = #[.cell p ty, .tmp u, .tmp v]) (tmps : Array Value) (P : Program) (w : World) :
    (results fn tmps).run P w =
      ((asAddr (tmps.getD p undef)).run P w).andThen fun a w₁ => ((loadVar ty a).run P w₁).andThen fun x w₂ => .ok (.tuple #[x, tmps.getD u undef, tmps.getD v undef]) w₂ := by
  simp only [results, h]
  simp [Sem.run_bind, Result.andThen]
/-- Leaving with a struct that lives in a block, and two values beside it. -/
theorem ret_blk3 {P : Program} {w : World} {fn : Func} {R : Ending → World → Prop} {tmps : Array Value} {p u x : Tmp} {ty t : TypeId} {g : Nat} {cs : Array Value} {fs : Array Field} {v y : Value} (hr : fn.results = #[.cell p ty, .tmp u, .tmp x]) (hp : tmps.getD p undef = .pointer (some ⟨g, 0, none⟩))
    (hg : Blk w g cs t) (hu : P.underlying ty = some (.struct fs)) (hi : (P.info? ty).map (·.size) = some cs.size) (hv : tmps.getD u undef = v) (hy : tmps.getD x undef = y) (hR : R (.returned (.tuple #[.agg cs, v, y])) w) : bodyPost P fn R .ret ⟨tmps, []⟩ w := by
  refine bodyPost_ret ?_ rfl hR
  rw [results_cell_tmp2 hr, hp, hv, hy]
  simp [asAddr, run_loadVar_row w g t ty cs (0, 0) (.struct fs) hg hu rfl hi, Result.andThen]
/-- Four numbers that a call has made. -/
theorem nums4 {e : TypeId} {w w' : World} {A : Option Addr} {n c : Nat} {x0 x1 x2 x3 : UInt64} (h : Nw e w w' A n c ([x0, x1, x2, x3].map v64)) : ∃ g, A = some ⟨g, 0, none⟩ ∧ n = 4 ∧ 4 ≤ c ∧ c ≤ 9223372036854775807 ∧ w.heap.size ≤ g ∧ g < w'.heap.size ∧
    w'.cell? ⟨g, 0, none⟩ = some (.int .u64 (x0.toNat : Int)) ∧ w'.cell? ⟨g, 1, none⟩ = some (.int .u64 (x1.toNat : Int)) ∧ w'.cell? ⟨g, 2, none⟩ = some (.int .u64 (x2.toNat : Int)) ∧ w'.cell? ⟨g, 3, none⟩ = some (.int .u64 (x3.toNat : Int)) := by
  have hn : 4 = n := by simpa using h.1
  subst hn
  have h' := h
  rcases h.2 with ⟨_, h0⟩ | ⟨g, cap, cur, hv, hb, hg, hnc, hm, _⟩
  · cases h0
  · obtain ⟨rfl, rfl⟩ : A = some ⟨g, 0, none⟩ ∧ c = cap := by simpa using hv
    have hc := World.ownsRow.cells (g := g) h' rfl
    have e : ∀ j, ((⟨g, 0, none⟩ : Addr).add j) = ⟨g, j, none⟩ := fun j => by unfold Addr.add; split <;> simp_all
    refine ⟨g, rfl, rfl, hnc, by simpa [maxLen] using hm, hb, (Array.getElem?_eq_some_iff.1 hg).1, ?_, ?_, ?_, ?_⟩
    · rw [← e]; exact hc 0 _ rfl
    · rw [← e]; exact hc 1 _ rfl
    · rw [← e]; exact hc 2 _ rfl
    · rw [← e]; exact hc 3 _ rfl
theorem rchk_wrap (k : Int) (Q n : Nat) (hQ : Q < 18446744073709551616) {q : Int} (hq : wrap64 (Q : Int) = q) : rchk k q n = rchk k Q n := by
  unfold wrap64 at hq
  unfold rchk
  rw [decide_eq_decide]
  omega
end Go.Wag
namespace Go.Proofs.YtjhpjhgofmlecaaDoor
open Go.RowKit Go.Wag
set_option linter.unusedVariables false

/-- A record in memory of its own, how many bytes, and no error; or none. -/
def RecOk (w : World) (r : Rp) (n : Nat) (e : Ending) (w' : World) : Prop :=
  ∃ A m c, m = r.l.length ∧ e = .returned (.tuple #[.agg #[.int .i64 r.k, .int .i64 r.s, .slice A m c], .int .i64 (n : Int), .int .i64 0]) ∧ Sl w' A m c (r.l.map v8) ∧ Fr w A ∧ Below w.heap.size w w'
def RecNo (w : World) (e : Ending) (w' : World) : Prop :=
  e = .returned (.tuple #[.agg #[.int .i64 0, .int .i64 0, .slice none 0 0], .int .i64 0, .int .i64 50]) ∧ Below w.heap.size w w'
def RecErr (w : World) (x : Option (Rp × Nat)) (e : Ending) (w' : World) : Prop :=
  match x with
  | none => RecNo w e w'
  | some y => RecOk w y.1 y.2 e w'
theorem RecErr.mkNo {w w' : World} {e : Ending} {x : Option (Rp × Nat)} (hx : x = none) (h : RecNo w e w') : RecErr w x e w' := by
  subst hx
  exact h
theorem RecErr.mkOk {w w' : World} {e : Ending} {x : Option (Rp × Nat)} {r : Rp} {n : Nat} (hx : x = some (r, n)) (h : RecOk w r n e w') : RecErr w x e w' := by
  subst hx
  exact h
theorem RecErr.ok {P : Program} {f : FuncId} {args : Array Value} {w : World} {x : Option (Rp × Nat)} {r : Rp} {n : Nat} (h : Calls P f args w (RecErr w x)) (hx : x = some (r, n)) : Calls P f args w (RecOk w r n) := by
  subst hx
  exact h
theorem RecErr.no {P : Program} {f : FuncId} {args : Array Value} {w : World} {x : Option (Rp × Nat)} (h : Calls P f args w (RecErr w x)) (hx : x = none) : Calls P f args w (RecNo w) := by
  subst hx
  exact h

set_option maxRecDepth 20000 in
set_option maxHeartbeats 4000000 in
theorem rRead_any (A : Option Addr) (n c : Nat) (b : List UInt8) (w : World) (hT : Tab w) (h : Sl w A n c (b.map v8)) (hn : n ≤ 10000000000000) :
    Calls Tryd.prog 12 #[.slice A n c] w (RecErr w (rdF b)) := by
  have HN : Hid (b.length = n) := h.len8
  have hcap := h.cap
  have hbig := h.big
  have bb := (Below.refl w.heap.size w).alloc (Nat.le_refl _) (.cells #[.int .i64 0, .int .i64 0, .slice none 0 0] 25)
  have V := Blk.new w #[.int .i64 0, .int .i64 0, .slice none 0 0] 25
  by_cases h16 : (n : Int) < 16
  · have hR : Hid (rdF b = none) := rd_short20 (by rw [HN.out]; omega)
    go_enter Tryd.func12, Tryd.ntmps12
    go_wp2
    try simp only [Exit.inBlock, Exit.then]
    exact ret_blk3 rfl rfl V Tryd.underlying25 (by kernel_rfl) rfl rfl (RecErr.mkNo hR.out ⟨rfl, bb⟩)
  replace hT := hT.below bb
  replace h := h.alloc (.cells #[.int .i64 0, .int .i64 0, .slice none 0 0] 25)
  have HU := h.upto (m := 16) (by omega)
  rw [← List.map_take] at HU
  have HD : Hid (unpackF [119, 104, 104, 113] (b.take 16) = some [UInt64.ofNat (rM b), UInt64.ofNat (rK b), UInt64.ofNat (rN b), UInt64.ofNat (rS b)]) := unpack_head (by rw [HN.out]; omega)
  go_enter Tryd.func12, Tryd.ntmps12
  go_wp2_with fail
  refine (NumsErr.ok (Unpack_any ⟨#[119, 104, 104, 113]⟩ A 16 c (b.take 16) _ HU (by decide)) HD.out).mono ?_
  rintro e w2 ⟨A2, n2, c2, rfl, s2, f2, b2⟩
  obtain ⟨g, rfl, rfl, hc4, hcb, hg0, hg1, g0, g1, g2, g3⟩ := nums4 f2
  rw [nat64 (Nat.lt_of_lt_of_le (rM_lt b) (by decide))] at g0
  rw [nat64 (Nat.lt_of_lt_of_le (rK_lt b) (by decide))] at g1
  rw [nat64 (Nat.lt_of_lt_of_le (rN_lt b) (by decide))] at g2
  rw [nat64 (rS_lt b)] at g3
  clear s2 f2 HU HD
  replace V := V.under b2
  replace h := h.below b2
  replace hT := hT.below b2
  replace bb := bb.trans (b2.mono bb.size)
  clear b2 hg0
  have lM := rM_lt b
  have lK := rK_lt b
  have lN := rN_lt b
  have lS := rS_lt b
  obtain ⟨M, HM⟩ : ∃ M, Hid (rM b = M) := ⟨_, rfl⟩
  obtain ⟨Kd, HK⟩ : ∃ M, Hid (rK b = M) := ⟨_, rfl⟩
  obtain ⟨N, HB⟩ : ∃ M, Hid (rN b = M) := ⟨_, rfl⟩
  obtain ⟨Q, HQ⟩ : ∃ M, Hid (rS b = M) := ⟨_, rfl⟩
  rw [HM.out] at g0 lM
  rw [HK.out] at g1 lK
  rw [HB.out] at g2 lN
  rw [HQ.out] at g3 lS
  by_cases hm : ((M : Int) != 1196184151) = true
  · have hR : Hid (rdF b = none) := rd_mark (by rw [HM.out]; simp at hm; omega)
    obtain ⟨q0, q1, q2, r0, r1, r2⟩ := V.three
    go_wp2
    try simp only [Exit.inBlock, Exit.then]
    exact ret_blk3 rfl rfl (((V.set 0 _).set 1 _).set 2 _) Tryd.underlying25 (by kernel_rfl) rfl rfl (RecErr.mkNo hR.out ⟨rfl, ((bb.setCell (p := ⟨w.heap.size, 0, none⟩) (Nat.le_refl _) _).setCell (p := ⟨w.heap.size, 1, none⟩) (Nat.le_refl _) _).setCell (p := ⟨w.heap.size, 2, none⟩) (Nat.le_refl _) _⟩)
  have hm2 : M = 1196184151 := by simp at hm; omega
  have HM2 : Hid (rM b = 1196184151) := HM.out.trans hm2
  clear HM hm2
  have w1 : wrap64 (N : Int) = N := by unfold wrap64; omega
  go_wp2_with fail
  refine (named (rSize_any (N : Int) w2)).mono ?_
  rintro e w3 ⟨rfl, b3⟩
  replace V := V.under b3
  replace h := h.below b3
  replace hT := hT.below b3
  replace bb := bb.trans (b3.mono bb.size)
  replace g1 := (b3.cell hg1).trans g1
  replace g3 := (b3.cell hg1).trans g3
  replace hg1 := Nat.lt_of_lt_of_le hg1 b3.size
  clear b3 g0 g2 w1
  by_cases hb : 4096 < N
  · have hR : Hid (rdF b = none) := rd_big (by rw [HB.out]; exact hb)
    have e3 : rsizeF (N : Int) = 0 := by unfold rsizeF; rw [if_neg (by omega)]
    obtain ⟨q0, q1, q2, r0, r1, r2⟩ := V.three
    go_wp2
    try simp only [Exit.inBlock, Exit.then]
    exact ret_blk3 rfl rfl (((V.set 0 _).set 1 _).set 2 _) Tryd.underlying25 (by kernel_rfl) rfl rfl (RecErr.mkNo hR.out ⟨rfl, ((bb.setCell (p := ⟨w.heap.size, 0, none⟩) (Nat.le_refl _) _).setCell (p := ⟨w.heap.size, 1, none⟩) (Nat.le_refl _) _).setCell (p := ⟨w.heap.size, 2, none⟩) (Nat.le_refl _) _⟩)
  obtain ⟨z, hz⟩ : ∃ z, Hid (z = N + 20) := ⟨_, rfl⟩
  have hz0 : 20 ≤ z := by have := hz.out; omega
  have hz1 : ((z : Int) == 0) = false := by simp; omega
  have hz2 : ¬ z = 0 := by omega
  have e3 : rsizeF (N : Int) = (z : Int) := by unfold rsizeF; rw [if_pos (by omega)]; have := hz.out; omega
  by_cases hl : (n : Int) < (z : Int)
  · have hR : Hid (rdF b = none) := rd_short (by rw [HB.out, HN.out]; have := hz.out; omega)
    obtain ⟨q0, q1, q2, r0, r1, r2⟩ := V.three
    go_wp2
    try simp only [Exit.inBlock, Exit.then]
    exact ret_blk3 rfl rfl (((V.set 0 _).set 1 _).set 2 _) Tryd.underlying25 (by kernel_rfl) rfl rfl (RecErr.mkNo hR.out ⟨rfl, ((bb.setCell (p := ⟨w.heap.size, 0, none⟩) (Nat.le_refl _) _).setCell (p := ⟨w.heap.size, 1, none⟩) (Nat.le_refl _) _).setCell (p := ⟨w.heap.size, 2, none⟩) (Nat.le_refl _) _⟩)
  have hl2 : ¬ n < z := by omega
  have HL : Hid (rN b + 20 ≤ b.length) := by show rN b + 20 ≤ b.length; rw [HB.out, HN.out]; have := hz.out; omega
  have HZ : Hid (rN b + 20 = z) := by show rN b + 20 = z; rw [HB.out, hz.out]
  have HU := h.upto (m := z) (by omega)
  rw [← List.map_take] at HU
  go_wp2_with fail
  cases ho : openF (b.take z) with
  | none =>
    have hR : Hid (rdF b = none) := rd_sum (by rw [HZ.out]; exact ho)
    refine (BytesErr.no (Open_any A z c (b.take z) w3 hT HU (by omega)) ho).mono ?_
    rintro e w4 ⟨A4, n4, c4, rfl, s4, f4, b4⟩
    replace V := V.under b4
    replace bb := bb.trans (b4.mono bb.size)
    clear ho
    obtain ⟨q0, q1, q2, r0, r1, r2⟩ := V.three
    go_wp2
    try simp only [Exit.inBlock, Exit.then]
    exact ret_blk3 rfl rfl (((V.set 0 _).set 1 _).set 2 _) Tryd.underlying25 (by kernel_rfl) rfl rfl (RecErr.mkNo hR.out ⟨rfl, ((bb.setCell (p := ⟨w.heap.size, 0, none⟩) (Nat.le_refl _) _).setCell (p := ⟨w.heap.size, 1, none⟩) (Nat.le_refl _) _).setCell (p := ⟨w.heap.size, 2, none⟩) (Nat.le_refl _) _⟩)
  | some t =>
    refine (BytesErr.ok (Open_any A z c (b.take z) w3 hT HU (by omega)) ho).mono ?_
    rintro e w4 ⟨A4, n4, c4, rfl, s4, f4, b4⟩
    have hlt3 := V.lt
    replace V := V.under b4
    replace g1 := (b4.cell hg1).trans g1
    replace g3 := (b4.cell hg1).trans g3
    replace hg1 := Nat.lt_of_lt_of_le hg1 b4.size
    have hfr : ∀ ad, A4 = some ad → w.heap.size < ad.block := fun ad e => Nat.lt_of_lt_of_le hlt3 (f4.fr ad e)
    replace bb := bb.trans (b4.mono bb.size)
    clear b4 f4
    have hcap4 := s4.cap
    have hbig4 := s4.big
    have h16t : t.length = N + 16 := by
      have := ho
      unfold openF at this
      split at this
      · cases this
        rw [List.length_take, List.length_take, HN.out]
        have := hz.out
        omega
      · cases this
    obtain rfl : n4 = N + 16 := by have := s4.len8; omega
    have hcut := fun W => run_cut (P := Tryd.prog) 23 5 un22 el22 sz5 A4 (N + 16) c4 .i64 16 16 rfl (by omega) W
    simp only [Nat.add_sub_cancel] at hcut
    have s5 := s4.from_ (k := 16) (by omega)
    rw [Nat.add_sub_cancel, ← List.map_drop] at s5
    have hfr5 : ∀ ad, cutA A4 c4 16 = some ad → w.heap.size < ad.block := fun ad e => by
      unfold cutA at e
      split at e
      · exact hfr ad e
      · obtain ⟨x, hx, rfl⟩ := Option.map_eq_some_iff.1 e
        rw [add_block]
        exact hfr x hx
    have hc5 := s5.cap
    generalize cutA A4 c4 16 = A5 at *
    obtain ⟨q, hq⟩ : ∃ q, wrap64 (Q : Int) = q := ⟨_, rfl⟩
    have hk1 : wrap64 (Kd : Int) = Kd := by unfold wrap64; omega
    have HR := rchk_wrap (Kd : Int) Q N lS hq
    replace HR := Lib.hid HR
    replace hq := Lib.hid hq
    have hq' : IntKind.i64.wrap (Q : Int) = q := (IntWalk.i64_left _).trans hq.out
    have hk2 : IntKind.i64.wrap (Kd : Int) = (Kd : Int) := (IntWalk.i64_left _).trans hk1
    clear hk1
    go_wp2_with fail
    refine wp_region_held_drew (S := fun w' => Below w4.heap.size w4 w') (by kernel_rfl) (Below.refl _ _).drew (fun hHeld => ?_)
    try dsimp only at hHeld
    have bd : Below w4.heap.size w4 w4.drew := (Below.refl w4.heap.size w4).drew
    generalize w4.drew = wd at *
    try simp only [Act.put, List.setIfInBounds_toArray, List.set_cons_zero, List.set_cons_succ]
    refine wpAnyH_take (i := 0) (v := ?_) (by simp only [List.getElem?_toArray, List.getElem?_cons_zero]; rfl) (by kernel_rfl) (by kernel_rfl) (by kernel_rfl) (by intro _ _ _ h; exact h) (Or.inl ⟨by rfl, ?_⟩) hHeld ?_
    rotate_left 1
    · intro wq hSw
      try dsimp only at hSw
      go_simp
      try (with_reducible rfl)
    try simp only [Act.put, List.setIfInBounds_toArray, List.set_cons_zero, List.set_cons_succ]
    refine wpAnyH_take (i := 1) (v := ?_) (by simp only [List.getElem?_toArray, List.getElem?_cons_succ, List.getElem?_cons_zero]; rfl) (by kernel_rfl) (by kernel_rfl) (by kernel_rfl) (by intro _ _ _ h; exact h) (Or.inl ⟨by rfl, ?_⟩) hHeld ?_
    rotate_left 1
    · intro wq hSw
      try dsimp only at hSw
      go_simp
      try (with_reducible rfl)
    try simp only [Act.put, List.setIfInBounds_toArray, List.set_cons_zero, List.set_cons_succ]
    refine wpAnyH_take (i := 2) (v := ?_) (by simp only [List.getElem?_toArray, List.getElem?_cons_succ, List.getElem?_cons_zero]; rfl) (by kernel_rfl) (by kernel_rfl) (by kernel_rfl) (by intro _ _ _ h; exact h) (Or.inl ⟨by rfl, ?_⟩) hHeld ?_
    rotate_left 1
    · intro wq hSw
      try dsimp only at hSw
      have x1 := (hSw.cell (p := ⟨g, 1, none⟩) hg1).trans g1
      go_simp
      try (with_reducible rfl)
    try simp only [Act.put, List.setIfInBounds_toArray, List.set_cons_zero, List.set_cons_succ]
    refine wpAnyH_take (i := 3) (v := ?_) (by simp only [List.getElem?_toArray, List.getElem?_cons_succ, List.getElem?_cons_zero]; rfl) (by kernel_rfl) (by kernel_rfl) (by kernel_rfl) (by intro _ _ _ h; exact h) (Or.inl ⟨by rfl, ?_⟩) hHeld ?_
    rotate_left 1
    · intro wq hSw
      try dsimp only at hSw
      go_simp
      try (with_reducible rfl)
    try simp only [Act.put, List.setIfInBounds_toArray, List.set_cons_zero, List.set_cons_succ]
    refine wpAnyH_take (i := 4) (v := ?_) (by simp only [List.getElem?_toArray, List.getElem?_cons_succ, List.getElem?_cons_zero]; rfl) (by kernel_rfl) (by kernel_rfl) (by kernel_rfl) (by intro _ _ _ h; exact h) (Or.inl ⟨by rfl, ?_⟩) hHeld ?_
    rotate_left 1
    · intro wq hSw
      try dsimp only at hSw
      go_simp
      try (with_reducible rfl)
    try simp only [Act.put, List.setIfInBounds_toArray, List.set_cons_zero, List.set_cons_succ]
    refine wpAnyH_take (i := 5) (v := ?_) (by simp only [List.getElem?_toArray, List.getElem?_cons_succ, List.getElem?_cons_zero]; rfl) (by kernel_rfl) (by kernel_rfl) (by kernel_rfl) (by intro _ _ _ h; exact h) (Or.inl ⟨by rfl, ?_⟩) hHeld ?_
    rotate_left 1
    · intro wq hSw
      try dsimp only at hSw
      go_simp
      try (with_reducible rfl)
    try simp only [Act.put, List.setIfInBounds_toArray, List.set_cons_zero, List.set_cons_succ]
    refine wpAnyH_take (i := 6) (v := ?_) (by simp only [List.getElem?_toArray, List.getElem?_cons_succ, List.getElem?_cons_zero]; rfl) (by kernel_rfl) (by kernel_rfl) (by kernel_rfl) (by intro _ _ _ h; exact h) (Or.inl ⟨by rfl, ?_⟩) hHeld ?_
    rotate_left 1
    · intro wq hSw
      try dsimp only at hSw
      have x3 := (hSw.cell (p := ⟨g, 3, none⟩) hg1).trans g3
      go_simp
      try (with_reducible rfl)
    try simp only [Act.put, List.setIfInBounds_toArray, List.set_cons_zero, List.set_cons_succ]
    refine wpAnyH_take (i := 7) (v := ?_) (by simp only [List.getElem?_toArray, List.getElem?_cons_succ, List.getElem?_cons_zero]; rfl) (by kernel_rfl) (by kernel_rfl) (by kernel_rfl) (by intro _ _ _ h; exact h) (Or.inl ⟨by rfl, ?_⟩) hHeld ?_
    rotate_left 1
    · intro wq hSw
      try dsimp only at hSw
      go_simp
      try (with_reducible rfl)
    try simp only [Act.put, List.setIfInBounds_toArray, List.set_cons_zero, List.set_cons_succ]
    refine wpAnyH_take (i := 8) (v := ?_) (by simp only [List.getElem?_toArray, List.getElem?_cons_succ, List.getElem?_cons_zero]; rfl) (by kernel_rfl) (by kernel_rfl) (by kernel_rfl) (by intro _ _ _ h; exact h) (Or.inl ⟨by rfl, ?_⟩) hHeld ?_
    rotate_left 1
    · intro wq hSw
      try dsimp only at hSw
      go_simp
      try (with_reducible rfl)
    try simp only [Act.put, List.setIfInBounds_toArray, List.set_cons_zero, List.set_cons_succ]
    refine wpAnyH_take (i := 9) (v := ?_) (by simp only [List.getElem?_toArray, List.getElem?_cons_succ, List.getElem?_cons_zero]; rfl) (by kernel_rfl) (by kernel_rfl) (by kernel_rfl) (by intro _ _ _ h; exact h) (Or.inl ⟨by rfl, ?_⟩) hHeld ?_
    rotate_left 1
    · intro wq hSw
      try dsimp only at hSw
      go_simp
      try (with_reducible rfl)
    try simp only [Act.put, List.setIfInBounds_toArray, List.set_cons_zero, List.set_cons_succ]
    refine wpAnyH_take (i := 10) (v := ?_) (by simp only [List.getElem?_toArray, List.getElem?_cons_succ, List.getElem?_cons_zero]; rfl) (by kernel_rfl) (by kernel_rfl) (by kernel_rfl) (by intro _ _ _ h; exact h) (Or.inl ⟨by rfl, ?_⟩) hHeld ?_
    rotate_left 1
    · intro wq hSw
      try dsimp only at hSw
      go_simp
      try (with_reducible rfl)
    try simp only [Act.put, List.setIfInBounds_toArray, List.set_cons_zero, List.set_cons_succ]
    refine wpAnyH_ready (rs := [11]) (by kernel_rfl) (by simp) ?_
    refine AllReadyH.cons (by simp only [List.getElem?_toArray, List.getElem?_cons_succ, List.getElem?_cons_zero]; rfl) (fun K hK => ?_) AllReadyH.nil
    obtain ⟨kv, hkv⟩ : ∃ k, wd.heap.size = k := ⟨_, rfl⟩
    go_simp
    try simp only [hkv]
    have U := Blk.new wd #[.int .i64 0, .int .i64 0, .slice none 0 0] 25
    rw [hkv] at U
    have hcv : w4.heap.size ≤ kv := by rw [← hkv]; exact bd.size
    replace bd := bd.alloc bd.size (.cells #[.int .i64 0, .int .i64 0, .slice none 0 0] 25)
    clear hkv
    generalize wd.alloc (.cells #[.int .i64 0, .int .i64 0, .slice none 0 0] 25) = wu at *
    refine hK.out _ _ (bd) (fun hHeld => ?_)
    clear hK K
    try dsimp only at hHeld
    try simp only [Act.put, List.setIfInBounds_toArray, List.set_cons_zero, List.set_cons_succ]
    refine wpAnyH_ready (rs := [12]) (by kernel_rfl) (by simp) ?_
    refine AllReadyH.cons (by simp only [List.getElem?_toArray, List.getElem?_cons_succ, List.getElem?_cons_zero]; rfl) (fun K hK => ?_) AllReadyH.nil
    obtain ⟨z0, z1, z2, y0, y1, y2⟩ := U.three
    go_simp
    have U2 := ((U.set 0 (.int .i64 (Kd : Int))).set 1 (.int .i64 q)).set 2 (.slice A5 N (c4 - 16))
    simp only [List.setIfInBounds_toArray, List.set_cons_zero, List.set_cons_succ] at U2
    have bd2 := ((bd.setCell (p := ⟨kv, 0, none⟩) hcv (.int .i64 (Kd : Int))).setCell (p := ⟨kv, 1, none⟩) hcv (.int .i64 q)).setCell (p := ⟨kv, 2, none⟩) hcv (.slice A5 N (c4 - 16))
    clear z0 z1 z2 y0 y1 y2 U bd
    generalize (((wu.setCell ⟨kv, 0, none⟩ (.int .i64 (Kd : Int))).setCell ⟨kv, 1, none⟩ (.int .i64 q)).setCell ⟨kv, 2, none⟩ (.slice A5 N (c4 - 16))) = wv at *
    refine hK.out _ _ (bd2) (fun hHeld => ?_)
    clear hK K
    try dsimp only at hHeld
    try simp only [Act.put, List.setIfInBounds_toArray, List.set_cons_zero, List.set_cons_succ]
    refine wpAnyH_done (by kernel_rfl) ?_ _
    replace V := V.under bd2
    replace s5 := s5.below bd2
    replace bb := bb.trans (bd2.mono bb.size)
    clear hcut g1 g3 hq' hk2
    obtain ⟨u0, u1, u2, _⟩ := U2.three
    go_wp2_with fail
    clear u0 u1 u2
    refine (rCheck_any (Kd : Int) q A5 N (c4 - 16) wv).mono ?_
    rintro e w6 ⟨rfl, b6⟩
    replace V := V.under b6
    replace U2 := U2.under b6
    replace s5 := s5.below b6
    replace bb := bb.trans (b6.mono bb.size)
    obtain ⟨u0, u1, u2, _⟩ := U2.three
    cases hr : rchk (Kd : Int) Q N
    · have e6 : rchkE (Kd : Int) q N = 50 := rchkE_no (by rw [HR.out, hr])
      have hR : Hid (rdF b = none) := rd_bad HL.out (by rw [HK.out, HQ.out, HB.out, hr])
      obtain ⟨q0, q1, q2, r0, r1, r2⟩ := V.three
      go_wp2
      try simp only [Exit.inBlock, Exit.then]
      exact ret_blk3 rfl rfl (((V.set 0 _).set 1 _).set 2 _) Tryd.underlying25 (by kernel_rfl) rfl rfl (RecErr.mkNo hR.out ⟨rfl, ((bb.setCell (p := ⟨w.heap.size, 0, none⟩) (Nat.le_refl _) _).setCell (p := ⟨w.heap.size, 1, none⟩) (Nat.le_refl _) _).setCell (p := ⟨w.heap.size, 2, none⟩) (Nat.le_refl _) _⟩)
    · have e6 : rchkE (Kd : Int) q N = 0 := rchkE_yes (by rw [HR.out, hr])
      obtain ⟨hR1, hR2, hR3⟩ := rd_yes HL.out HM2.out (by rw [HZ.out]; exact ho) (by rw [HK.out, HQ.out, HB.out, hr])
      replace hR1 := Lib.hid hR1
      rw [hR2] at s5
      have HC := Lib.hid (cand_len HL.out)
      have hqQ : q = (Q : Int) := by
        have := rchk_all hr
        have h3 := hq.out
        unfold wrap64 at h3
        omega
      replace hqQ := Lib.hid hqQ
      clear hR2 hR3 ho h16t s4
      obtain ⟨q0, q1, q2, r0, r1, r2⟩ := V.three
      go_wp2
      try simp only [Exit.inBlock, Exit.then]
      refine ret_blk3 rfl rfl (((V.set 0 _).set 1 _).set 2 _) Tryd.underlying25 (by kernel_rfl) rfl rfl (RecErr.mkOk hR1.out ⟨A5, N, c4 - 16, ?_, ?_, ?_, fun ad e => Nat.le_of_lt (hfr5 ad e), ((bb.setCell (p := ⟨w.heap.size, 0, none⟩) (Nat.le_refl _) _).setCell (p := ⟨w.heap.size, 1, none⟩) (Nat.le_refl _) _).setCell (p := ⟨w.heap.size, 2, none⟩) (Nat.le_refl _) _⟩)
      · rw [HC.out, HB.out]
      · rw [show (cand b).k = (Kd : Int) from congrArg Nat.cast HK.out, show (cand b).s = q from (congrArg Nat.cast HQ.out).trans hqQ.out.symm, HZ.out]
        rfl
      · have hne : ∀ ad, A5 = some ad → ad.block ≠ w.heap.size := fun ad e => Nat.ne_of_gt (hfr5 ad e)
        exact ((s5.far (a := ⟨w.heap.size, 0, none⟩) hne _).far (a := ⟨w.heap.size, 1, none⟩) hne _).far (a := ⟨w.heap.size, 2, none⟩) hne _
end Go.Proofs.YtjhpjhgofmlecaaDoor
