/-
  Texts that the walks lean on, one behind the other: Rec3, Rec4, Rec5, Rec6, Zone, Zone2, Zone3, Zone4, Dev1, Dev2, Dev3, Dev4, Dev5, Dev6.
-/
import Derived.Deep.DrawnRows
import Derived.Deep.RegionHeld3
import Derived.Deep.LoopGhost
import Derived.Test.YtnejiclghnigiaaDoorMergA
namespace Go.Wag
open Go.RowKit
set_option linter.unusedVariables false
set_option maxRecDepth 20000
theorem results_cell_tmp2 {fn : Func} {p u v : Tmp} {ty : TypeId} (h : fn.results = #[.cell p ty, .tmp u, .tmp v]) (tmps : Array Value) (P : Program) (w : World) :
    (results fn tmps).run P w =
      ((asAddr (tmps.getD p undef)).run P w).andThen fun a w₁ => ((loadVar ty a).run P w₁).andThen fun x w₂ => .ok (.tuple #[x, tmps.getD u undef, tmps.getD v undef]) w₂ := by
  simp only [results, h]
  simp [Sem.run_bind, Result.andThen]
/-- Leaving with a struct that lives in a block, and two values beside it. -/
theorem ret_blk3 {P : Program} {w : World} {fn : Func} {R : Ending → World → Prop} {tmps : Array Value} {p u x : Tmp} {ty t : TypeId} {g : Nat} {cs : Array Value} {fs : Array Field} {v y : Value} (hr : fn.results = #[.cell p ty, .tmp u, .tmp x]) (hp : tmps.getD p undef = .pointer (some ⟨g, 0, none⟩))
    (hg : Blk w g cs t) (hu : P.underlying ty = some (.struct fs)) (hi : (P.info? ty).map (·.size) = some cs.size) (hv : tmps.getD u undef = v) (hy : tmps.getD x undef = y) (hR : R (.returned (.tuple #[.agg cs, v, y])) w) : bodyPost P fn R .ret ⟨tmps, []⟩ w := by
  refine bodyPost_ret ?_ rfl hR
  rw [results_cell_tmp2 hr, hp, hv, hy]
  simp [asAddr, run_loadVar_row w g t ty cs (0, 0) (.struct fs) hg hu rfl hi, Result.andThen]
/-- Four numbers that a call has made. -/
theorem nums4 {e : TypeId} {w w' : World} {A : Option Addr} {n c : Nat} {x0 x1 x2 x3 : UInt64} (h : Nw e w w' A n c ([x0, x1, x2, x3].map v64)) : ∃ g, A = some ⟨g, 0, none⟩ ∧ n = 4 ∧ 4 ≤ c ∧ c ≤ 9223372036854775807 ∧ w.heap.size ≤ g ∧ g < w'.heap.size ∧
    w'.cell? ⟨g, 0, none⟩ = some (.int .u64 (x0.toNat : Int)) ∧ w'.cell? ⟨g, 1, none⟩ = some (.int .u64 (x1.toNat : Int)) ∧ w'.cell? ⟨g, 2, none⟩ = some (.int .u64 (x2.toNat : Int)) ∧ w'.cell? ⟨g, 3, none⟩ = some (.int .u64 (x3.toNat : Int)) := by
  have hn : 4 = n := by simpa using h.1
  subst hn
  have h' := h
  rcases h.2 with ⟨_, h0⟩ | ⟨g, cap, cur, hv, hb, hg, hnc, hm, _⟩
  · cases h0
  · obtain ⟨rfl, rfl⟩ : A = some ⟨g, 0, none⟩ ∧ c = cap := by simpa using hv
    have hc := World.ownsRow.cells (g := g) h' rfl
    have e : ∀ j, ((⟨g, 0, none⟩ : Addr).add j) = ⟨g, j, none⟩ := fun j => by unfold Addr.add; split <;> simp_all
    refine ⟨g, rfl, rfl, hnc, by simpa [maxLen] using hm, hb, (Array.getElem?_eq_some_iff.1 hg).1, ?_, ?_, ?_, ?_⟩
    · rw [← e]; exact hc 0 _ rfl
    · rw [← e]; exact hc 1 _ rfl
    · rw [← e]; exact hc 2 _ rfl
    · rw [← e]; exact hc 3 _ rfl
theorem rchk_wrap (k : Int) (Q n : Nat) (hQ : Q < 18446744073709551616) {q : Int} (hq : wrap64 (Q : Int) = q) : rchk k q n = rchk k Q n := by
  unfold wrap64 at hq
  unfold rchk
  rw [decide_eq_decide]
  omega
end Go.Wag
namespace Go.Proofs.YtnejiclghnigiaaDoor
open Go.RowKit Go.Wag
set_option linter.unusedVariables false
set_option maxRecDepth 20000

/-- A record in memory of its own, how many bytes, and no error; or none. -/
def RecOk (w : World) (r : Rp) (n : Nat) (e : Ending) (w' : World) : Prop :=
  ∃ A m c, m = r.l.length ∧ e = .returned (.tuple #[.agg #[.int .i64 r.k, .int .i64 r.s, .slice A m c], .int .i64 (n : Int), .int .i64 0]) ∧ Sl w' A m c (r.l.map v8) ∧ Fr w A ∧ Below w.heap.size w w'
def RecNo (w : World) (e : Ending) (w' : World) : Prop :=
  e = .returned (.tuple #[.agg #[.int .i64 0, .int .i64 0, .slice none 0 0], .int .i64 0, .int .i64 50]) ∧ Below w.heap.size w w'
def RecErr (w : World) (x : Option (Rp × Nat)) (e : Ending) (w' : World) : Prop :=
  match x with
  | none => RecNo w e w'
  | some y => RecOk w y.1 y.2 e w'
theorem RecErr.mkNo {w w' : World} {e : Ending} {x : Option (Rp × Nat)} (hx : x = none) (h : RecNo w e w') : RecErr w x e w' := by
  subst hx
  exact h
theorem RecErr.mkOk {w w' : World} {e : Ending} {x : Option (Rp × Nat)} {r : Rp} {n : Nat} (hx : x = some (r, n)) (h : RecOk w r n e w') : RecErr w x e w' := by
  subst hx
  exact h
theorem RecErr.ok {P : Program} {f : FuncId} {args : Array Value} {w : World} {x : Option (Rp × Nat)} {r : Rp} {n : Nat} (h : Calls P f args w (RecErr w x)) (hx : x = some (r, n)) : Calls P f args w (RecOk w r n) := by
  subst hx
  exact h
theorem RecErr.no {P : Program} {f : FuncId} {args : Array Value} {w : World} {x : Option (Rp × Nat)} (h : Calls P f args w (RecErr w x)) (hx : x = none) : Calls P f args w (RecNo w) := by
  subst hx
  exact h

set_option maxRecDepth 20000 in
set_option maxHeartbeats 4000000 in
theorem rRead_any (A : Option Addr) (n c : Nat) (b : List UInt8) (w : World) (hT : Tab w) (h : Sl w A n c (b.map v8)) (hn : n ≤ 10000000000000) :
    Calls Tryd.prog 68 #[.slice A n c] w (RecErr w (rdF b)) := by
  have HN : Hid (b.length = n) := h.len8
  have hcap := h.cap
  have hbig := h.big
  have bb := (Below.refl w.heap.size w).alloc (Nat.le_refl _) (.cells #[.int .i64 0, .int .i64 0, .slice none 0 0] 26)
  have V := Blk.new w #[.int .i64 0, .int .i64 0, .slice none 0 0] 26
  by_cases h16 : (n : Int) < 16
  · have hR : Hid (rdF b = none) := rd_short20 (by rw [HN.out]; omega)
    go_enter Tryd.func68, Tryd.ntmps68
    go_wp2
    try simp only [Exit.inBlock, Exit.then]
    exact ret_blk3 rfl rfl V Tryd.underlying26 (by kernel_rfl) rfl rfl (RecErr.mkNo hR.out ⟨rfl, bb⟩)
  replace hT := hT.below bb
  replace h := h.alloc (.cells #[.int .i64 0, .int .i64 0, .slice none 0 0] 26)
  have HU := h.upto (m := 16) (by omega)
  rw [← List.map_take] at HU
  have HD : Hid (unpackF [119, 104, 104, 113] (b.take 16) = some [UInt64.ofNat (rM b), UInt64.ofNat (rK b), UInt64.ofNat (rN b), UInt64.ofNat (rS b)]) := unpack_head (by rw [HN.out]; omega)
  go_enter Tryd.func68, Tryd.ntmps68
  go_wp2_with fail
  refine (NumsErr.ok (Unpack_any ⟨#[119, 104, 104, 113]⟩ A 16 c (b.take 16) _ HU (by decide)) HD.out).mono ?_
  rintro e w2 ⟨A2, n2, c2, rfl, s2, f2, b2⟩
  obtain ⟨g, rfl, rfl, hc4, hcb, hg0, hg1, g0, g1, g2, g3⟩ := nums4 f2
  rw [nat64 (Nat.lt_of_lt_of_le (rM_lt b) (by decide))] at g0
  rw [nat64 (Nat.lt_of_lt_of_le (rK_lt b) (by decide))] at g1
  rw [nat64 (Nat.lt_of_lt_of_le (rN_lt b) (by decide))] at g2
  rw [nat64 (rS_lt b)] at g3
  clear s2 f2 HU HD
  replace V := V.under b2
  replace h := h.below b2
  replace hT := hT.below b2
  replace bb := bb.trans (b2.mono bb.size)
  clear b2 hg0
  have lM := rM_lt b
  have lK := rK_lt b
  have lN := rN_lt b
  have lS := rS_lt b
  obtain ⟨M, HM⟩ : ∃ M, Hid (rM b = M) := ⟨_, rfl⟩
  obtain ⟨Kd, HK⟩ : ∃ M, Hid (rK b = M) := ⟨_, rfl⟩
  obtain ⟨N, HB⟩ : ∃ M, Hid (rN b = M) := ⟨_, rfl⟩
  obtain ⟨Q, HQ⟩ : ∃ M, Hid (rS b = M) := ⟨_, rfl⟩
  rw [HM.out] at g0 lM
  rw [HK.out] at g1 lK
  rw [HB.out] at g2 lN
  rw [HQ.out] at g3 lS
  by_cases hm : ((M : Int) != 1196184151) = true
  · have hR : Hid (rdF b = none) := rd_mark (by rw [HM.out]; simp at hm; omega)
    obtain ⟨q0, q1, q2, r0, r1, r2⟩ := V.three
    go_wp2
    try simp only [Exit.inBlock, Exit.then]
    exact ret_blk3 rfl rfl (((V.set 0 _).set 1 _).set 2 _) Tryd.underlying26 (by kernel_rfl) rfl rfl (RecErr.mkNo hR.out ⟨rfl, ((bb.setCell (p := ⟨w.heap.size, 0, none⟩) (Nat.le_refl _) _).setCell (p := ⟨w.heap.size, 1, none⟩) (Nat.le_refl _) _).setCell (p := ⟨w.heap.size, 2, none⟩) (Nat.le_refl _) _⟩)
  have hm2 : M = 1196184151 := by simp at hm; omega
  have HM2 : Hid (rM b = 1196184151) := HM.out.trans hm2
  clear HM hm2
  have w1 : wrap64 (N : Int) = N := by unfold wrap64; omega
  go_wp2_with fail
  refine (named (rSize_any (N : Int) w2)).mono ?_
  rintro e w3 ⟨rfl, b3⟩
  replace V := V.under b3
  replace h := h.below b3
  replace hT := hT.below b3
  replace bb := bb.trans (b3.mono bb.size)
  replace g1 := (b3.cell hg1).trans g1
  replace g3 := (b3.cell hg1).trans g3
  replace hg1 := Nat.lt_of_lt_of_le hg1 b3.size
  clear b3 g0 g2 w1
  by_cases hb : 4096 < N
  · have hR : Hid (rdF b = none) := rd_big (by rw [HB.out]; exact hb)
    have e3 : rsizeF (N : Int) = 0 := by unfold rsizeF; rw [if_neg (by omega)]
    obtain ⟨q0, q1, q2, r0, r1, r2⟩ := V.three
    go_wp2
    try simp only [Exit.inBlock, Exit.then]
    exact ret_blk3 rfl rfl (((V.set 0 _).set 1 _).set 2 _) Tryd.underlying26 (by kernel_rfl) rfl rfl (RecErr.mkNo hR.out ⟨rfl, ((bb.setCell (p := ⟨w.heap.size, 0, none⟩) (Nat.le_refl _) _).setCell (p := ⟨w.heap.size, 1, none⟩) (Nat.le_refl _) _).setCell (p := ⟨w.heap.size, 2, none⟩) (Nat.le_refl _) _⟩)
  obtain ⟨z, hz⟩ : ∃ z, Hid (z = N + 20) := ⟨_, rfl⟩
  have hz0 : 20 ≤ z := by have := hz.out; omega
  have hz1 : ((z : Int) == 0) = false := by simp; omega
  have hz2 : ¬ z = 0 := by omega
  have e3 : rsizeF (N : Int) = (z : Int) := by unfold rsizeF; rw [if_pos (by omega)]; have := hz.out; omega
  by_cases hl : (n : Int) < (z : Int)
  · have hR : Hid (rdF b = none) := rd_short (by rw [HB.out, HN.out]; have := hz.out; omega)
    obtain ⟨q0, q1, q2, r0, r1, r2⟩ := V.three
    go_wp2
    try simp only [Exit.inBlock, Exit.then]
    exact ret_blk3 rfl rfl (((V.set 0 _).set 1 _).set 2 _) Tryd.underlying26 (by kernel_rfl) rfl rfl (RecErr.mkNo hR.out ⟨rfl, ((bb.setCell (p := ⟨w.heap.size, 0, none⟩) (Nat.le_refl _) _).setCell (p := ⟨w.heap.size, 1, none⟩) (Nat.le_refl _) _).setCell (p := ⟨w.heap.size, 2, none⟩) (Nat.le_refl _) _⟩)
  have hl2 : ¬ n < z := by omega
  have HL : Hid (rN b + 20 ≤ b.length) := by show rN b + 20 ≤ b.length; rw [HB.out, HN.out]; have := hz.out; omega
  have HZ : Hid (rN b + 20 = z) := by show rN b + 20 = z; rw [HB.out, hz.out]
  have HU := h.upto (m := z) (by omega)
  rw [← List.map_take] at HU
  go_wp2_with fail
  cases ho : openF (b.take z) with
  | none =>
    have hR : Hid (rdF b = none) := rd_sum (by rw [HZ.out]; exact ho)
    refine (BytesErr.no (Open_any A z c (b.take z) w3 hT HU (by omega)) ho).mono ?_
    rintro e w4 ⟨A4, n4, c4, rfl, s4, f4, b4⟩
    replace V := V.under b4
    replace bb := bb.trans (b4.mono bb.size)
    clear ho
    obtain ⟨q0, q1, q2, r0, r1, r2⟩ := V.three
    go_wp2
    try simp only [Exit.inBlock, Exit.then]
    exact ret_blk3 rfl rfl (((V.set 0 _).set 1 _).set 2 _) Tryd.underlying26 (by kernel_rfl) rfl rfl (RecErr.mkNo hR.out ⟨rfl, ((bb.setCell (p := ⟨w.heap.size, 0, none⟩) (Nat.le_refl _) _).setCell (p := ⟨w.heap.size, 1, none⟩) (Nat.le_refl _) _).setCell (p := ⟨w.heap.size, 2, none⟩) (Nat.le_refl _) _⟩)
  | some t =>
    refine (BytesErr.ok (Open_any A z c (b.take z) w3 hT HU (by omega)) ho).mono ?_
    rintro e w4 ⟨A4, n4, c4, rfl, s4, f4, b4⟩
    have hlt3 := V.lt
    replace V := V.under b4
    replace g1 := (b4.cell hg1).trans g1
    replace g3 := (b4.cell hg1).trans g3
    replace hg1 := Nat.lt_of_lt_of_le hg1 b4.size
    have hfr : ∀ ad, A4 = some ad → w.heap.size < ad.block := fun ad e => Nat.lt_of_lt_of_le hlt3 (f4.fr ad e)
    replace bb := bb.trans (b4.mono bb.size)
    clear b4 f4
    have hcap4 := s4.cap
    have hbig4 := s4.big
    have h16t : t.length = N + 16 := by
      have := ho
      unfold openF at this
      split at this
      · cases this
        rw [List.length_take, List.length_take, HN.out]
        have := hz.out
        omega
      · cases this
    obtain rfl : n4 = N + 16 := by have := s4.len8; omega
    have hcut := fun W => run_cut (P := Tryd.prog) 24 5 un22 el22 sz5 A4 (N + 16) c4 .i64 16 16 rfl (by omega) W
    simp only [Nat.add_sub_cancel] at hcut
    have s5 := s4.from_ (k := 16) (by omega)
    rw [Nat.add_sub_cancel, ← List.map_drop] at s5
    have hfr5 : ∀ ad, cutA A4 c4 16 = some ad → w.heap.size < ad.block := fun ad e => by
      unfold cutA at e
      split at e
      · exact hfr ad e
      · obtain ⟨x, hx, rfl⟩ := Option.map_eq_some_iff.1 e
        rw [add_block]
        exact hfr x hx
    have hc5 := s5.cap
    generalize cutA A4 c4 16 = A5 at *
    obtain ⟨q, hq⟩ : ∃ q, wrap64 (Q : Int) = q := ⟨_, rfl⟩
    have hk1 : wrap64 (Kd : Int) = Kd := by unfold wrap64; omega
    have HR := rchk_wrap (Kd : Int) Q N lS hq
    replace HR := Lib.hid HR
    replace hq := Lib.hid hq
    have hq' : IntKind.i64.wrap (Q : Int) = q := (IntWalk.i64_left _).trans hq.out
    have hk2 : IntKind.i64.wrap (Kd : Int) = (Kd : Int) := (IntWalk.i64_left _).trans hk1
    clear hk1
    go_wp2_with fail
    refine wp_region_held_drew (S := fun w' => Below w4.heap.size w4 w') (by kernel_rfl) (Below.refl _ _).drew (fun hHeld => ?_)
    try dsimp only at hHeld
    have bd : Below w4.heap.size w4 w4.drew := (Below.refl w4.heap.size w4).drew
    generalize w4.drew = wd at *
    try simp only [Act.put, List.setIfInBounds_toArray, List.set_cons_zero, List.set_cons_succ]
    refine wpAnyH_take (i := 0) (v := ?_) (by simp only [List.getElem?_toArray, List.getElem?_cons_zero]; rfl) (by kernel_rfl) (by kernel_rfl) (by kernel_rfl) (by intro _ _ _ h; exact h) (Or.inl ⟨by rfl, ?_⟩) hHeld ?_
    rotate_left 1
    · intro wq hSw
      try dsimp only at hSw
      go_simp
      try (with_reducible rfl)
    try simp only [Act.put, List.setIfInBounds_toArray, List.set_cons_zero, List.set_cons_succ]
    refine wpAnyH_take (i := 1) (v := ?_) (by simp only [List.getElem?_toArray, List.getElem?_cons_succ, List.getElem?_cons_zero]; rfl) (by kernel_rfl) (by kernel_rfl) (by kernel_rfl) (by intro _ _ _ h; exact h) (Or.inl ⟨by rfl, ?_⟩) hHeld ?_
    rotate_left 1
    · intro wq hSw
      try dsimp only at hSw
      go_simp
      try (with_reducible rfl)
    try simp only [Act.put, List.setIfInBounds_toArray, List.set_cons_zero, List.set_cons_succ]
    refine wpAnyH_take (i := 2) (v := ?_) (by simp only [List.getElem?_toArray, List.getElem?_cons_succ, List.getElem?_cons_zero]; rfl) (by kernel_rfl) (by kernel_rfl) (by kernel_rfl) (by intro _ _ _ h; exact h) (Or.inl ⟨by rfl, ?_⟩) hHeld ?_
    rotate_left 1
    · intro wq hSw
      try dsimp only at hSw
      have x1 := (hSw.cell (p := ⟨g, 1, none⟩) hg1).trans g1
      go_simp
      try (with_reducible rfl)
    try simp only [Act.put, List.setIfInBounds_toArray, List.set_cons_zero, List.set_cons_succ]
    refine wpAnyH_take (i := 3) (v := ?_) (by simp only [List.getElem?_toArray, List.getElem?_cons_succ, List.getElem?_cons_zero]; rfl) (by kernel_rfl) (by kernel_rfl) (by kernel_rfl) (by intro _ _ _ h; exact h) (Or.inl ⟨by rfl, ?_⟩) hHeld ?_
    rotate_left 1
    · intro wq hSw
      try dsimp only at hSw
      go_simp
      try (with_reducible rfl)
    try simp only [Act.put, List.setIfInBounds_toArray, List.set_cons_zero, List.set_cons_succ]
    refine wpAnyH_take (i := 4) (v := ?_) (by simp only [List.getElem?_toArray, List.getElem?_cons_succ, List.getElem?_cons_zero]; rfl) (by kernel_rfl) (by kernel_rfl) (by kernel_rfl) (by intro _ _ _ h; exact h) (Or.inl ⟨by rfl, ?_⟩) hHeld ?_
    rotate_left 1
    · intro wq hSw
      try dsimp only at hSw
      go_simp
      try (with_reducible rfl)
    try simp only [Act.put, List.setIfInBounds_toArray, List.set_cons_zero, List.set_cons_succ]
    refine wpAnyH_take (i := 5) (v := ?_) (by simp only [List.getElem?_toArray, List.getElem?_cons_succ, List.getElem?_cons_zero]; rfl) (by kernel_rfl) (by kernel_rfl) (by kernel_rfl) (by intro _ _ _ h; exact h) (Or.inl ⟨by rfl, ?_⟩) hHeld ?_
    rotate_left 1
    · intro wq hSw
      try dsimp only at hSw
      go_simp
      try (with_reducible rfl)
    try simp only [Act.put, List.setIfInBounds_toArray, List.set_cons_zero, List.set_cons_succ]
    refine wpAnyH_take (i := 6) (v := ?_) (by simp only [List.getElem?_toArray, List.getElem?_cons_succ, List.getElem?_cons_zero]; rfl) (by kernel_rfl) (by kernel_rfl) (by kernel_rfl) (by intro _ _ _ h; exact h) (Or.inl ⟨by rfl, ?_⟩) hHeld ?_
    rotate_left 1
    · intro wq hSw
      try dsimp only at hSw
      have x3 := (hSw.cell (p := ⟨g, 3, none⟩) hg1).trans g3
      go_simp
      try (with_reducible rfl)
    try simp only [Act.put, List.setIfInBounds_toArray, List.set_cons_zero, List.set_cons_succ]
    refine wpAnyH_take (i := 7) (v := ?_) (by simp only [List.getElem?_toArray, List.getElem?_cons_succ, List.getElem?_cons_zero]; rfl) (by kernel_rfl) (by kernel_rfl) (by kernel_rfl) (by intro _ _ _ h; exact h) (Or.inl ⟨by rfl, ?_⟩) hHeld ?_
    rotate_left 1
    · intro wq hSw
      try dsimp only at hSw
      go_simp
      try (with_reducible rfl)
    try simp only [Act.put, List.setIfInBounds_toArray, List.set_cons_zero, List.set_cons_succ]
    refine wpAnyH_take (i := 8) (v := ?_) (by simp only [List.getElem?_toArray, List.getElem?_cons_succ, List.getElem?_cons_zero]; rfl) (by kernel_rfl) (by kernel_rfl) (by kernel_rfl) (by intro _ _ _ h; exact h) (Or.inl ⟨by rfl, ?_⟩) hHeld ?_
    rotate_left 1
    · intro wq hSw
      try dsimp only at hSw
      go_simp
      try (with_reducible rfl)
    try simp only [Act.put, List.setIfInBounds_toArray, List.set_cons_zero, List.set_cons_succ]
    refine wpAnyH_take (i := 9) (v := ?_) (by simp only [List.getElem?_toArray, List.getElem?_cons_succ, List.getElem?_cons_zero]; rfl) (by kernel_rfl) (by kernel_rfl) (by kernel_rfl) (by intro _ _ _ h; exact h) (Or.inl ⟨by rfl, ?_⟩) hHeld ?_
    rotate_left 1
    · intro wq hSw
      try dsimp only at hSw
      go_simp
      try (with_reducible rfl)
    try simp only [Act.put, List.setIfInBounds_toArray, List.set_cons_zero, List.set_cons_succ]
    refine wpAnyH_take (i := 10) (v := ?_) (by simp only [List.getElem?_toArray, List.getElem?_cons_succ, List.getElem?_cons_zero]; rfl) (by kernel_rfl) (by kernel_rfl) (by kernel_rfl) (by intro _ _ _ h; exact h) (Or.inl ⟨by rfl, ?_⟩) hHeld ?_
    rotate_left 1
    · intro wq hSw
      try dsimp only at hSw
      go_simp
      try (with_reducible rfl)
    try simp only [Act.put, List.setIfInBounds_toArray, List.set_cons_zero, List.set_cons_succ]
    refine wpAnyH_ready (rs := [11]) (by kernel_rfl) (by simp) ?_
    refine AllReadyH.cons (by simp only [List.getElem?_toArray, List.getElem?_cons_succ, List.getElem?_cons_zero]; rfl) (fun K hK => ?_) AllReadyH.nil
    obtain ⟨kv, hkv⟩ : ∃ k, wd.heap.size = k := ⟨_, rfl⟩
    go_simp
    try simp only [hkv]
    have U := Blk.new wd #[.int .i64 0, .int .i64 0, .slice none 0 0] 26
    rw [hkv] at U
    have hcv : w4.heap.size ≤ kv := by rw [← hkv]; exact bd.size
    replace bd := bd.alloc bd.size (.cells #[.int .i64 0, .int .i64 0, .slice none 0 0] 26)
    clear hkv
    generalize wd.alloc (.cells #[.int .i64 0, .int .i64 0, .slice none 0 0] 26) = wu at *
    refine hK.out _ _ (bd) (fun hHeld => ?_)
    clear hK K
    try dsimp only at hHeld
    try simp only [Act.put, List.setIfInBounds_toArray, List.set_cons_zero, List.set_cons_succ]
    refine wpAnyH_ready (rs := [12]) (by kernel_rfl) (by simp) ?_
    refine AllReadyH.cons (by simp only [List.getElem?_toArray, List.getElem?_cons_succ, List.getElem?_cons_zero]; rfl) (fun K hK => ?_) AllReadyH.nil
    obtain ⟨z0, z1, z2, y0, y1, y2⟩ := U.three
    go_simp
    have U2 := ((U.set 0 (.int .i64 (Kd : Int))).set 1 (.int .i64 q)).set 2 (.slice A5 N (c4 - 16))
    simp only [List.setIfInBounds_toArray, List.set_cons_zero, List.set_cons_succ] at U2
    have bd2 := ((bd.setCell (p := ⟨kv, 0, none⟩) hcv (.int .i64 (Kd : Int))).setCell (p := ⟨kv, 1, none⟩) hcv (.int .i64 q)).setCell (p := ⟨kv, 2, none⟩) hcv (.slice A5 N (c4 - 16))
    clear z0 z1 z2 y0 y1 y2 U bd
    generalize (((wu.setCell ⟨kv, 0, none⟩ (.int .i64 (Kd : Int))).setCell ⟨kv, 1, none⟩ (.int .i64 q)).setCell ⟨kv, 2, none⟩ (.slice A5 N (c4 - 16))) = wv at *
    refine hK.out _ _ (bd2) (fun hHeld => ?_)
    clear hK K
    try dsimp only at hHeld
    try simp only [Act.put, List.setIfInBounds_toArray, List.set_cons_zero, List.set_cons_succ]
    refine wpAnyH_done (by kernel_rfl) ?_ _
    replace V := V.under bd2
    replace s5 := s5.below bd2
    replace bb := bb.trans (bd2.mono bb.size)
    clear hcut g1 g3 hq' hk2
    obtain ⟨u0, u1, u2, _⟩ := U2.three
    go_wp2_with fail
    clear u0 u1 u2
    refine (rCheck_any (Kd : Int) q A5 N (c4 - 16) wv).mono ?_
    rintro e w6 ⟨rfl, b6⟩
    replace V := V.under b6
    replace U2 := U2.under b6
    replace s5 := s5.below b6
    replace bb := bb.trans (b6.mono bb.size)
    obtain ⟨u0, u1, u2, _⟩ := U2.three
    cases hr : rchk (Kd : Int) Q N
    · have e6 : rchkE (Kd : Int) q N = 50 := rchkE_no (by rw [HR.out, hr])
      have hR : Hid (rdF b = none) := rd_bad HL.out (by rw [HK.out, HQ.out, HB.out, hr])
      obtain ⟨q0, q1, q2, r0, r1, r2⟩ := V.three
      go_wp2
      try simp only [Exit.inBlock, Exit.then]
      exact ret_blk3 rfl rfl (((V.set 0 _).set 1 _).set 2 _) Tryd.underlying26 (by kernel_rfl) rfl rfl (RecErr.mkNo hR.out ⟨rfl, ((bb.setCell (p := ⟨w.heap.size, 0, none⟩) (Nat.le_refl _) _).setCell (p := ⟨w.heap.size, 1, none⟩) (Nat.le_refl _) _).setCell (p := ⟨w.heap.size, 2, none⟩) (Nat.le_refl _) _⟩)
    · have e6 : rchkE (Kd : Int) q N = 0 := rchkE_yes (by rw [HR.out, hr])
      obtain ⟨hR1, hR2, hR3⟩ := rd_yes HL.out HM2.out (by rw [HZ.out]; exact ho) (by rw [HK.out, HQ.out, HB.out, hr])
      replace hR1 := Lib.hid hR1
      rw [hR2] at s5
      have HC := Lib.hid (cand_len HL.out)
      have hqQ : q = (Q : Int) := by
        have := rchk_all hr
        have h3 := hq.out
        unfold wrap64 at h3
        omega
      replace hqQ := Lib.hid hqQ
      clear hR2 hR3 ho h16t s4
      obtain ⟨q0, q1, q2, r0, r1, r2⟩ := V.three
      go_wp2
      try simp only [Exit.inBlock, Exit.then]
      refine ret_blk3 rfl rfl (((V.set 0 _).set 1 _).set 2 _) Tryd.underlying26 (by kernel_rfl) rfl rfl (RecErr.mkOk hR1.out ⟨A5, N, c4 - 16, ?_, ?_, ?_, fun ad e => Nat.le_of_lt (hfr5 ad e), ((bb.setCell (p := ⟨w.heap.size, 0, none⟩) (Nat.le_refl _) _).setCell (p := ⟨w.heap.size, 1, none⟩) (Nat.le_refl _) _).setCell (p := ⟨w.heap.size, 2, none⟩) (Nat.le_refl _) _⟩)
      · rw [HC.out, HB.out]
      · rw [show (cand b).k = (Kd : Int) from congrArg Nat.cast HK.out, show (cand b).s = q from (congrArg Nat.cast HQ.out).trans hqQ.out.symm, HZ.out]
        rfl
      · have hne : ∀ ad, A5 = some ad → ad.block ≠ w.heap.size := fun ad e => Nat.ne_of_gt (hfr5 ad e)
        exact ((s5.far (a := ⟨w.heap.size, 0, none⟩) hne _).far (a := ⟨w.heap.size, 1, none⟩) hne _).far (a := ⟨w.heap.size, 2, none⟩) hne _
end Go.Proofs.YtnejiclghnigiaaDoor
namespace Go.Proofs.YtnejiclghnigiaaDoor
open Go.RowKit Go.Wag
set_option linter.unusedVariables false
set_option maxRecDepth 20000

theorem rfinder_any (A : Option Addr) (n c : Nat) (w : World) :
    Calls Tryd.prog 55 #[.slice A n c] w fun e w' => e = .returned (.func (.func 67) #[] #[.pointer (some ⟨w.heap.size, 0, none⟩), .pointer (some ⟨w.heap.size + 1, 0, none⟩)]) ∧
      Blk w' w.heap.size #[.slice A n c] 24 ∧ Blk w' (w.heap.size + 1) #[.int .i64 0] 3 ∧ Below w.heap.size w w' := by
  go_enter Tryd.func55, Tryd.ntmps55
  go_wp2
  go_ret
  refine ⟨rfl, (Blk.new _ _ _).alloc _, ?_, ((Below.refl _ _).alloc (Nat.le_refl _) _).alloc (by simp) _⟩
  have := Blk.new (w.alloc (.cells #[.slice A n c] 24)) #[.int .i64 0] 3
  simpa using this

theorem grown_new {w w1 : World} {row : Option Nat} (h : w.grownBy w1 row) {a : Addr} (ha : w.heap.size ≤ a.block) (u : Value) : w.grownBy (w1.setCell a u) row :=
  ⟨h.os, h.tape, h.output, by simpa [World.setCell] using h.size, fun i hi hne => (Below.heap_setCell _ _ _ _ (by omega)).trans (h.block i hi hne)⟩
theorem grown_at {w w1 : World} {k : Nat} (h : w.grownBy w1 (some k)) (i : Nat) (u : Value) : w.grownBy (w1.setCell ⟨k, i, none⟩ u) (some k) := h.trans (grown_set w1 ⟨k, i, none⟩ u)

/-- What a search from place p on answers: a record, its place, and the place behind it; or none. -/
def FindPost (w : World) (ka p : Nat) (x : Option (Rp × Nat)) (e : Ending) (w' : World) : Prop :=
  match x with
  | none => e = .returned (.tuple #[.agg #[.int .i64 0, .int .i64 0, .slice none 0 0], .int .i64 0, .bool false]) ∧ Below w.heap.size w w'
  | some (r, m) => ∃ A l c, l = r.l.length ∧ e = .returned (.tuple #[.agg #[.int .i64 r.k, .int .i64 r.s, .slice A l c], .int .i64 (p : Int), .bool true]) ∧ Sl w' A l c (r.l.map v8) ∧ Fr w A ∧
      Blk w' ka #[.int .i64 ((p + m : Nat) : Int)] 3 ∧ w.grownBy w' (some ka)
theorem FindPost.mkNo {w w' : World} {ka p : Nat} {e : Ending} {x : Option (Rp × Nat)} (hx : x = none) (h : FindPost w ka p none e w') : FindPost w ka p x e w' := by
  subst hx
  exact h
theorem FindPost.mkOk {w w' : World} {ka p : Nat} {e : Ending} {x : Option (Rp × Nat)} {y : Rp × Nat} (hx : x = some y) (h : FindPost w ka p (some y) e w') : FindPost w ka p x e w' := by
  subst hx
  exact h

set_option maxHeartbeats 2000000 in
theorem rfind_any (kb ka p : Nat) (A : Option Addr) (n c : Nat) (b : List UInt8) (w : World) (hT : Tab w) (Bb : Blk w kb #[.slice A n c] 24) (Ba : Blk w ka #[.int .i64 (p : Int)] 3) (h : Sl w A n c (b.map v8)) (hn : n ≤ 10000000000000) (hp : p ≤ n) :
    Calls Tryd.prog 67 #[.pointer (some ⟨kb, 0, none⟩), .pointer (some ⟨ka, 0, none⟩)] w (FindPost w ka p (rdF (b.drop p))) := by
  have HN : Hid (b.length = n) := h.len8
  have hcap := h.cap
  have hbig := h.big
  have bb := (Below.refl w.heap.size w).alloc (Nat.le_refl _) (.cells #[.int .i64 0, .int .i64 0, .slice none 0 0] 26)
  have V := Blk.new w #[.int .i64 0, .int .i64 0, .slice none 0 0] 26
  have hkb := Bb.lt
  have hka := Ba.lt
  obtain ⟨x0, x1⟩ := Bb.one
  obtain ⟨y0, y1⟩ := Ba.one
  have hcut := fun W => run_cut (P := Tryd.prog) 24 5 un22 el22 sz5 A n c .i64 (p : Int) p rfl hp W
  have HC := (h.from_ (k := p) hp).alloc (.cells #[.int .i64 0, .int .i64 0, .slice none 0 0] 26)
  rw [← List.map_drop] at HC
  cases hR : rdF (b.drop p) with
  | none =>
    go_enter Tryd.func67, Tryd.ntmps67
    go_wp2_with fail
    refine (RecErr.no (rRead_any _ _ _ (b.drop p) _ (hT.below bb) HC (by omega)) hR).mono ?_
    rintro e w2 ⟨rfl, b2⟩
    replace V := V.under b2
    replace bb := bb.trans (b2.mono bb.size)
    clear b2 x0 x1 y0 y1 hcut HC
    have hvl := V.lt
    obtain ⟨q0, q1, q2, r0, r1, r2⟩ := V.three
    go_wp2
    try simp only [Exit.inBlock, Exit.then]
    have b3 := ((bb.setCell (p := ⟨w.heap.size, 0, none⟩) (Nat.le_refl _) (.int .i64 0)).setCell (p := ⟨w.heap.size, 1, none⟩) (Nat.le_refl _) (.int .i64 0)).setCell (p := ⟨w.heap.size, 2, none⟩) (Nat.le_refl _) (.slice none 0 0)
    exact ret_blk3 rfl rfl ((((V.set 0 _).set 1 _).set 2 _).alloc _) Tryd.underlying26 (by kernel_rfl) rfl rfl ⟨rfl, b3.alloc b3.size _⟩
  | some y =>
    obtain ⟨r, m⟩ := y
    have hm2 := (rd_some hR).2.2.1
    rw [List.length_drop, HN.out] at hm2
    go_enter Tryd.func67, Tryd.ntmps67
    go_wp2_with fail
    refine (RecErr.ok (rRead_any _ _ _ (b.drop p) _ (hT.below bb) HC (by omega)) hR).mono ?_
    rintro e w2 ⟨A2, l2, c2, hl2, rfl, s2, f2, b2⟩
    have hf2 : ∀ ad, A2 = some ad → w.heap.size < ad.block := fun ad e => Nat.lt_of_lt_of_le V.lt (f2 ad e)
    replace V := V.under b2
    replace Ba := (Ba.alloc _).under b2
    replace bb := bb.trans (b2.mono bb.size)
    replace HN := Lib.hid hl2
    clear b2 x0 x1 y0 y1 hcut HC hl2
    have hvl := V.lt
    have hal := Ba.lt
    obtain ⟨y0, y1⟩ := Ba.one
    obtain ⟨q0, q1, q2, r0, r1, r2⟩ := V.three
    have hw : wrap64 ((p : Int) + (m : Int)) = (p : Int) + m := by unfold wrap64; omega
    go_wp2
    try simp only [Exit.inBlock, Exit.then]
    have hne : ka ≠ w.heap.size := by omega
    refine ret_blk3 rfl rfl (((((V.far (a := ⟨ka, 0, none⟩) (Ne.symm hne) (.int .i64 ((p : Int) + m))).set 0 (.int .i64 r.k)).set 1 (.int .i64 r.s)).set 2 (.slice A2 l2 c2)).alloc (.cells #[.int .i64 r.k, .int .i64 r.s, .slice A2 l2 c2] 26)) Tryd.underlying26 (by kernel_rfl) rfl rfl ⟨A2, l2, c2, HN.out, rfl, ?_, fun ad e => Nat.le_of_lt (hf2 ad e), ?_, ?_⟩
    · have h1 : ∀ ad, A2 = some ad → ad.block ≠ w.heap.size := fun ad e => Nat.ne_of_gt (hf2 ad e)
      have h2 : ∀ ad, A2 = some ad → ad.block ≠ ka := fun ad e => by have := hf2 ad e; omega
      exact ((((s2.far (a := ⟨ka, 0, none⟩) h2 _).far (a := ⟨w.heap.size, 0, none⟩) h1 _).far (a := ⟨w.heap.size, 1, none⟩) h1 _).far (a := ⟨w.heap.size, 2, none⟩) h1 _).alloc _
    · exact ((((Ba.set 0 _).far (a := ⟨w.heap.size, 0, none⟩) hne _).far (a := ⟨w.heap.size, 1, none⟩) hne _).far (a := ⟨w.heap.size, 2, none⟩) hne _).alloc _
    · exact (grown_new (grown_new (grown_new (grown_at (only_of bb (some ka)) 0 _) (a := ⟨w.heap.size, 0, none⟩) (Nat.le_refl _) _) (a := ⟨w.heap.size, 1, none⟩) (Nat.le_refl _) _) (a := ⟨w.heap.size, 2, none⟩) (Nat.le_refl _) _).trans (World.grownBy_alloc _ _ _)
end Go.Proofs.YtnejiclghnigiaaDoor
namespace Go.Wag
set_option linter.unusedVariables false
set_option maxRecDepth 20000
/-- Rows of unlike elements lie in unlike blocks. -/
theorem own_types {w : World} {B B' s s' n n' : Nat} {e e' : TypeId} {v v' : Value} {xs xs' : List Value} (h : w.ownsRow B e s v n xs) (h' : w.ownsRow B' e' s' v' n' xs') (hne : e ≠ e') : ∀ b, v.ownBlock = some b → v'.ownBlock ≠ some b := by
  intro b hb hb'
  rcases h.2 with ⟨rfl, _⟩ | ⟨g, cap, cur, rfl, _, hg, _⟩
  · cases hb
  · rcases h'.2 with ⟨rfl, _⟩ | ⟨g', cap', cur', rfl, _, hg', _⟩
    · cases hb'
    · have e1 : g = b := by simpa [Value.ownBlock] using hb
      have e2 : g' = b := by simpa [Value.ownBlock] using hb'
      subst e1
      subst e2
      rw [hg] at hg'
      injection hg' with hg'
      injection hg' with _ h2
      exact hne h2
/-- Numbers as cells. -/
def vint (n : Int) : Value := .int .i64 n
theorem one_int (n : Int) : ∀ u ∈ [Value.int .i64 n], u.oneCell' = true := by
  intro u hu
  rcases List.mem_cons.1 hu with rfl | hu
  · rfl
  · cases hu
theorem one_rec (a b : Int) (A : Option Addr) (n c : Nat) : ∀ u ∈ [Value.int .i64 a, .int .i64 b, .slice A n c], u.oneCell' = true := by
  intro u hu
  simp only [List.mem_cons, List.not_mem_nil, or_false] at hu
  rcases hu with rfl | rfl | rfl <;> rfl
end Go.Wag
namespace Go.Proofs.YtnejiclghnigiaaDoor
open Go.RowKit Go.Wag
set_option linter.unusedVariables false
set_option maxRecDepth 20000

theorem iRec : ∃ i, Tryd.prog.info? 26 = some i ∧ i.zero = some (.agg #[.int .i64 0, .int .i64 0, .slice none 0 0]) ∧ i.size = 3 ∧ i.bytes = 40 := by
  refine ⟨_, rfl, ?_, ?_, ?_⟩
  · kernel_rfl
  · kernel_rfl
  · kernel_rfl
theorem iInt : ∃ i, Tryd.prog.info? 3 = some i ∧ i.zero = some (.int .i64 0) ∧ i.size = 1 ∧ i.bytes = 8 := by
  refine ⟨_, rfl, ?_, ?_, ?_⟩
  · kernel_rfl
  · kernel_rfl
  · kernel_rfl

/-- Records that were found, and where they stand, in memory of their own. -/
def ScanPost (w : World) (xs : List (Rp × Nat)) (e : Ending) (w' : World) : Prop :=
  ∃ A k c A2 c2, k = xs.length ∧ e = .returned (.tuple #[.slice A k c, .slice A2 k c2]) ∧ Rs recE (fun x => w.heap.size ≤ x) w' A k c (xs.map Prod.fst) ∧ Nw 3 w w' A2 k c2 (xs.map fun x => vint x.2) ∧ Below w.heap.size w w'

/-- What holds at Scan's label. -/
def ScanAt (w : World) (A : Option Addr) (n c : Nat) (b : List UInt8) (g : Nat) (a' : Act) (w' : World) : Prop :=
  ∃ (p : Nat) (Ar : Option Addr) (cr : Nat) (Ap : Option Addr) (cp k : Nat) (done : List (Rp × Nat)) (u7 u8 u9 u10 u11 u12 u13 u14 u15 u16 u17 u18 u19 u20 u21 u22 u23 u24 u25 u26 u27 u28 u29 : Value), a' = { tmps := #[.slice A n c, undef, .slice none 0 0, .slice none 0 0, .slice Ar k cr, .slice Ap k cp, (.func (.func 67) #[] #[.pointer (some ⟨w.heap.size, 0, none⟩), .pointer (some ⟨w.heap.size + 1, 0, none⟩)]), u7, u8, u9, u10, u11, u12, u13, u14, u15, u16, u17, u18, u19, u20, u21, u22, u23, u24, u25, u26, u27, u28, u29], defers := [] } ∧
    p + g = n ∧ k * 20 ≤ p ∧ Hid (done.length = k ∧ scF b 0 = done ++ scF b p) ∧ Blk w' w.heap.size #[.slice A n c] 24 ∧ Blk w' (w.heap.size + 1) #[.int .i64 (p : Int)] 3 ∧
    Rq recE (fun x => w.heap.size + 2 ≤ x ∧ (Value.slice Ap k cp).ownBlock ≠ some x) (w.heap.size + 2) 26 w' Ar k cr (done.map Prod.fst) ∧ w'.ownsRow (w.heap.size + 2) 3 1 (.slice Ap k cp) k (done.map fun x => vint x.2) ∧ Below w.heap.size w w' ∧ w.heap.size + 2 ≤ w'.heap.size

set_option maxRecDepth 20000 in
set_option maxHeartbeats 4000000 in
theorem rScan_any (A : Option Addr) (n c : Nat) (b : List UInt8) (w : World) (hT : Tab w) (h : Sl w A n c (b.map v8)) (hn : n ≤ 10000000000000) :
    Calls Tryd.prog 34 #[.slice A n c] w (ScanPost w (scF b 0)) := by
  have HN : Hid (b.length = n) := h.len8
  obtain ⟨iR, hiR, hzR, hsR, hbR⟩ := iRec
  obtain ⟨iI, hiI, hzI, hsI, hbI⟩ := iInt
  go_enter Tryd.func34, Tryd.ntmps34
  go_wp2
  refine wp_scope_ghost 0 (ScanAt w A n c b) rfl ?_ ?_
  · rintro g a' w' ⟨p, Ar, cr, Ap, cp, k, done, u7, u8, u9, u10, u11, u12, u13, u14, u15, u16, u17, u18, u19, u20, u21, u22, u23, u24, u25, u26, u27, u28, u29, rfl, hpg, hk, hD, Bb, Ba, Rr, Op, bb, hs⟩ J hJ
    cases hR : rdF (b.drop p) with
    | none =>
      go_wp2_with fail
      refine (rfind_any w.heap.size (w.heap.size + 1) p A n c b w' (hT.below bb) Bb Ba (h.below bb) hn (by omega)).mono ?_
      intro e w2 hq
      rw [hR] at hq
      obtain ⟨rfl, b2⟩ := hq
      replace Rr := Rr.under b2
      replace Op := World.ownsRow.kept Op (only_of b2 none) (by cases hv : Value.ownBlock (.slice Ap k cp) <;> simp)
      replace bb := bb.trans (b2.mono bb.size)
      clear b2 Bb Ba
      go_wp2
      simp only [Exit.jump]
      go_ret2
      obtain ⟨hdl, hde⟩ := hD.out
      rw [sc_none hR, List.append_nil] at hde
      rw [hde]
      refine ⟨Ar, k, cr, Ap, cp, hdl.symm, rfl, ?_, ?_, bb.alloc bb.size _⟩
      · exact ((Rr.imp (F' := fun x => w.heap.size ≤ x) (fun x _ hx => by omega)).toRs (fun x _ hx => by omega)).alloc _
      · exact own_base (World.ownsRow.alloc Op _) (by omega)
    | some y =>
      obtain ⟨r, m⟩ := y
      have hm2 := (rd_some hR).2.2.1
      have hm3 : 20 ≤ m := by rw [(rd_some hR).2.1]; omega
      rw [List.length_drop, HN.out] at hm2
      go_wp2_with fail
      refine (rfind_any w.heap.size (w.heap.size + 1) p A n c b w' (hT.below bb) Bb Ba (h.below bb) hn (by omega)).mono ?_
      intro e w2 hq
      rw [hR] at hq
      obtain ⟨A2, l2, c2, hl2, rfl, s2, f2, B2, gr⟩ := hq
      replace hl2 := Lib.hid hl2
      have hs2 := gr.size
      replace Bb := Bb.same (gr.block _ Bb.lt (by simp))
      have hro := Rr.lt
      have hpo := World.ownsRow.lt Op
      replace Rr := Rr.grown gr (fun x hx e => by have := (hro x hx).1; have := Option.some.inj e; omega) (fun x _ hx e => by have := Option.some.inj e; omega)
      replace Op := World.ownsRow.kept Op gr (by
        cases hv : Value.ownBlock (.slice Ap k cp) with
        | none => exact .inl rfl
        | some x => exact .inr (fun e => by have := (hpo x hv).1; have := Option.some.inj e; omega))
      replace bb := bb.grown gr (by omega) (fun x hx => by have := Option.some.inj hx; omega)
      replace Ba := B2
      clear gr B2
      -- the new record is apart from both rows
      have hA2 : ∀ ad, A2 = some ad → w.heap.size + 2 ≤ ad.block ∧ (Value.slice Ap k cp).ownBlock ≠ some ad.block ∧ (Value.slice Ar k cr).ownBlock ≠ some ad.block := fun ad e => by
        have h1 := f2 ad e
        refine ⟨by omega, fun e2 => ?_, fun e2 => ?_⟩
        · have := (hpo _ e2).2
          omega
        · have := (hro _ e2).2
          omega
      clear f2 hro hpo
      have hrd : recE.rd (fun x => (w.heap.size + 2 ≤ x ∧ (Value.slice Ap k cp).ownBlock ≠ some x) ∧ (Value.slice Ar k cr).ownBlock ≠ some x) w2 [.int .i64 r.k, .int .i64 r.s, .slice A2 l2 c2] r :=
        ⟨A2, c2, by rw [hl2.out], by rw [← hl2.out]; exact s2, fun _ ad e => ⟨⟨(hA2 ad e).1, (hA2 ad e).2.1⟩, (hA2 ad e).2.2⟩⟩
      clear hA2 s2
      -- the variable, and the row of one
      have a1 := (Below.refl w2.heap.size w2).alloc (Nat.le_refl _) (.cells #[.int .i64 r.k, .int .i64 r.s, .slice A2 l2 c2] 26)
      have a2 := a1.alloc a1.size (.cells #[.int .i64 r.k, .int .i64 r.s, .slice A2 l2 c2] 26)
      have Bs := Blk.new (w2.alloc (.cells #[.int .i64 r.k, .int .i64 r.s, .slice A2 l2 c2] 26)) #[.int .i64 r.k, .int .i64 r.s, .slice A2 l2 c2] 26
      simp only [World.size_alloc] at Bs
      replace Bb := Bb.under a2
      replace Ba := Ba.under a2
      replace Rr := Rr.under a2
      replace Op := World.ownsRow.kept Op (only_of a2 none) (by cases hv : Value.ownBlock (.slice Ap k cp) <;> simp)
      replace hrd := Elt.below hrd a2
      replace bb := bb.trans (a2.mono bb.size)
      have hs4 := Nat.le_trans (Nat.le_trans hs hs2) a2.size
      clear a1 a2 hs2
      obtain ⟨A5, c5, w5, hr, R5, gr, hlies⟩ := Rr.app (P := Tryd.prog) (T := 30) (ty := 30) Tryd.underlying30 hiR hzR hsR hbR rfl hs4 (by omega) (by omega) hrd (one_rec _ _ _ _ _) Bs
      have hro := Rr.lt
      obtain ⟨cs, hcs, _⟩ := Rr.row
      have hpr := own_types Op hcs (by decide)
      replace Op := World.ownsRow.kept Op gr (by
        cases hv : Value.ownBlock (.slice Ap k cp) with
        | none => exact .inl rfl
        | some x => exact .inr (fun e => hpr x hv e.symm))
      replace Bb := Bb.same (gr.block _ Bb.lt (fun e => by have := (hro _ e.symm).1; omega))
      replace Ba := Ba.same (gr.block _ Ba.lt (fun e => by have := (hro _ e.symm).1; omega))
      replace bb := bb.grown gr (by omega) (fun x hx => by have := (hro x hx).1; omega)
      have hs5 := Nat.le_trans hs4 gr.size
      clear hro hcs hpr gr hrd Bs hlies Rr hs4
      replace Bb := Bb.alloc (.cells #[.int .i64 (p : Int)] 3)
      replace Ba := Ba.alloc (.cells #[.int .i64 (p : Int)] 3)
      replace R5 := R5.alloc (.cells #[.int .i64 (p : Int)] 3)
      replace Op := World.ownsRow.alloc Op (.cells #[.int .i64 (p : Int)] 3)
      replace bb := bb.alloc bb.size (.cells #[.int .i64 (p : Int)] 3)
      have hs6 := Nat.le_trans hs5 ((Below.refl w5.heap.size w5).alloc (Nat.le_refl _) (.cells #[.int .i64 (p : Int)] 3)).size
      have S6 : Sl (w5.alloc (.cells #[.int .i64 (p : Int)] 3)) (some ⟨w5.heap.size, 0, none⟩) 1 1 [.int .i64 (p : Int)] := Sl.new w5 [.int .i64 (p : Int)] 3 (by simp)
      have HO := Own.start Op hs6
      obtain ⟨A7, c7, w7, hr7, hw7⟩ := run_app (P := Tryd.prog) HO 63 63 iI (.int .i64 0) 8 Tryd.underlying63 hiI hzI hsI hbI rfl _ _ _ _ S6 (one_int _) (by omega) (by omega)
      obtain ⟨cs, hcs, _⟩ := R5.row
      have hpr := own_types hcs Op (by decide)
      have hpo := World.ownsRow.lt Op
      have Bb7 := Bb.own hw7 (fun x hx e => by have := (hpo x hx).1; omega)
      have Ba7 := Ba.own hw7 (fun x hx e => by have := (hpo x hx).1; omega)
      have bb7 := bb.grown hw7.grown (by omega) (fun x hx => by have := (hpo x hx).1; omega)
      have R7 := ((R5.imp (F' := fun x => (w.heap.size + 2 ≤ x ∧ (Value.slice Ap k cp).ownBlock ≠ some x) ∧ (Value.slice A7 (k + 1) c7).ownBlock ≠ some x) (fun x hx hf => ⟨hf, fun e => by
        rcases hw7.lies with hl | hl
        · exact hf.2 (hl ▸ e)
        · have := hl x e
          omega⟩)).grown hw7.grown (fun x hx e => hpr x hx e) (fun x _ hf e => hf.1.2 e)).imp (F' := fun x => w.heap.size + 2 ≤ x ∧ (Value.slice A7 (k + 1) c7).ownBlock ≠ some x) (fun x _ hf => ⟨hf.1.1, hf.2⟩)
      have O7 := hw7.own
      have hs7 := Nat.le_trans hs6 hw7.grown.size
      clear hcs hpr hpo Bb Ba bb R5 Op HO S6 hw7
      go_wp2_with (at_builtin; first | (refine wpList_run rfl (.tmp 22) (.tmp 24) 30 rfl rfl rfl hr ?_; intro _) | (refine wpList_run rfl (.tmp 26) (.tmp 28) 63 rfl rfl rfl hr7 ?_; intro _))
      try go_step3
      refine ⟨rfl, Handed.intro (g - m) (by omega) (hJ _ _ _ ⟨p + m, A5, c5, A7, c7, k + 1, done ++ [(r, p)], _, _, _, _, _, _, _, _, _, _, _, _, _, _, _, _, _, _, _, _, _, _, _, rfl, by omega, by omega, ?_, Bb7, Ba7, ?_, ?_, bb7, hs7⟩)⟩
      · obtain ⟨hdl, hde⟩ := hD.out
        exact ⟨by simp [hdl], by rw [hde, sc_some hR]; simp⟩
      · rw [List.map_append]
        exact R7
      · rw [List.map_append]
        exact O7
  · intro L hL
    go_wp2_with fail
    refine (rfinder_any A n c w).mono ?_
    rintro e w1 ⟨rfl, Bb, Ba, b1⟩
    have hs1 := Ba.lt
    go_wp2
    rename_i K hK
    go_step3
    refine hK _ _ (hL n _ _ ⟨0, none, 0, none, 0, 0, [], _, _, _, _, _, _, _, _, _, _, _, _, _, _, _, _, _, _, _, _, _, _, _, rfl, by omega, by omega, ⟨rfl, rfl⟩, Bb, Ba, Rq.nil _ _ _ _ _, World.ownsRow_nil _ _ _ _, b1, hs1⟩)
end Go.Proofs.YtnejiclghnigiaaDoor
namespace Go.Wag
theorem Sl.vint_at {w : World} {A : Option Addr} {n c : Nat} {ks : List Int} {k : Nat} (h : Sl w A n c (ks.map vint)) (hk : k < n) : ∃ ad x, A = some ad ∧ ad.block < w.heap.size ∧ ks[k]? = some x ∧ w.cell? (ad.add k) = some (.int .i64 x) := by
  obtain ⟨ad, u, e, hb, hu, hc⟩ := h.at_ hk
  rw [List.getElem?_map, Option.map_eq_some_iff] at hu
  obtain ⟨x, hx, rfl⟩ := hu
  exact ⟨ad, x, e, hb, hx, hc⟩
end Go.Wag
namespace Go.Proofs.YtnejiclghnigiaaDoor
open Go.RowKit Go.Wag
set_option linter.unusedVariables false
set_option maxRecDepth 20000

def sameR (k1 s1 : Int) (l1 : List UInt8) (k2 s2 : Int) (l2 : List UInt8) : Bool := decide (k1 = k2 ∧ s1 = s2 ∧ l1 = l2)
theorem sameR_self (k s : Int) (l : List UInt8) : sameR k s l k s l = true := by simp [sameR]

set_option maxHeartbeats 400000 in
theorem recSame_any (k1 s1 : Int) (A1 : Option Addr) (n1 c1 : Nat) (l1 : List UInt8) (k2 s2 : Int) (A2 : Option Addr) (n2 c2 : Nat) (l2 : List UInt8) (w : World) (h1 : Sl w A1 n1 c1 (l1.map v8)) (h2 : Sl w A2 n2 c2 (l2.map v8)) :
    Calls Tryd.prog 20 #[.agg #[.int .i64 k1, .int .i64 s1, .slice A1 n1 c1], .agg #[.int .i64 k2, .int .i64 s2, .slice A2 n2 c2]] w
      fun e w' => e = .returned (.bool (sameR k1 s1 l1 k2 s2 l2)) ∧ Below w.heap.size w w' := by
  by_cases e1 : k1 = k2
  · subst e1
    by_cases e2 : s1 = s2
    · subst e2
      have q1 := str_of ((h1.alloc (.cells #[.int .i64 k1, .int .i64 s1, .slice A1 n1 c1] 26)).alloc (.cells #[.int .i64 k1, .int .i64 s1, .slice A2 n2 c2] 26))
      have q2 := str_of ((h2.alloc (.cells #[.int .i64 k1, .int .i64 s1, .slice A1 n1 c1] 26)).alloc (.cells #[.int .i64 k1, .int .i64 s1, .slice A2 n2 c2] 26))
      go_enter Tryd.func20, Tryd.ntmps20
      go_wp2
      all_goals
        go_ret
        go_tidy
        refine ⟨congrArg (fun b => Ending.returned (.bool b)) (?_ : (_ : Bool) = _), ((Below.refl _ _).alloc (Nat.le_refl _) _).alloc (by simp) _⟩
        first
          | (simp_all [sameR]; done)
          | (simp_all [sameR]; rw [Bool.eq_iff_iff]; simp)
    · have e2' : (s1 == s2) = false := by simp [e2]
      have q1 := str_of ((h1.alloc (.cells #[.int .i64 k1, .int .i64 s1, .slice A1 n1 c1] 26)).alloc (.cells #[.int .i64 k1, .int .i64 s2, .slice A2 n2 c2] 26))
      have q2 := str_of ((h2.alloc (.cells #[.int .i64 k1, .int .i64 s1, .slice A1 n1 c1] 26)).alloc (.cells #[.int .i64 k1, .int .i64 s2, .slice A2 n2 c2] 26))
      go_enter Tryd.func20, Tryd.ntmps20
      go_wp2
      go_ret
      refine ⟨congrArg (fun b => Ending.returned (.bool b)) (?_ : (_ : Bool) = _), ((Below.refl _ _).alloc (Nat.le_refl _) _).alloc (by simp) _⟩
      simp [sameR, e2]
  · have e1' : (k1 == k2) = false := by simp [e1]
    have q1 := str_of ((h1.alloc (.cells #[.int .i64 k1, .int .i64 s1, .slice A1 n1 c1] 26)).alloc (.cells #[.int .i64 k2, .int .i64 s2, .slice A2 n2 c2] 26))
    have q2 := str_of ((h2.alloc (.cells #[.int .i64 k1, .int .i64 s1, .slice A1 n1 c1] 26)).alloc (.cells #[.int .i64 k2, .int .i64 s2, .slice A2 n2 c2] 26))
    go_enter Tryd.func20, Tryd.ntmps20
    go_wp2
    go_ret
    refine ⟨congrArg (fun b => Ending.returned (.bool b)) (?_ : (_ : Bool) = _), ((Below.refl _ _).alloc (Nat.le_refl _) _).alloc (by simp) _⟩
    simp [sameR, e1]

set_option maxHeartbeats 1000000 in
theorem allSame_any {F F2 : Nat → Prop} (rs : List Rp) (A : Option Addr) (n c : Nat) (A2 : Option Addr) (c2 : Nat) (w : World) (h : Rs recE F w A n c rs) (h2 : Rs recE F2 w A2 n c2 rs) :
    Calls Tryd.prog 10 #[.slice A n c, .slice A2 n c2] w fun e w' => e = .returned (.bool true) ∧ Below w.heap.size w w' := by
  have hcap := h.cap
  have hbig := h.big
  have hne : ((n : Int) != (n : Int)) = false := by simp
  go_enter Tryd.func10, Tryd.ntmps10
  go_wp2
  go_loopg [5] n (fun g i wr => ∃ k : Nat, k + g = n ∧ i = .int .i64 (k : Int) ∧ Below w.heap.size w wr)
  case atStart => exact ⟨0, by omega, rfl, Below.refl _ _⟩
  case round =>
    obtain ⟨k, hk, rfl, br⟩ := hrel
    by_cases hlt : (k : Int) < (n : Int)
    · obtain ⟨g, rfl⟩ : ∃ g, gk = g + 1 := ⟨gk - 1, by omega⟩
      obtain ⟨gb, o, r, Ai, ci, rfl, _, hg, hz, c0, c1, c2', hS, _⟩ := (h.below br).rec_at (show k < n by omega)
      obtain ⟨gx, ox, rx, Ax, cx, rfl, _, hgx, hzx, e0, e1, e2, hX, _⟩ := (h2.below br).rec_at (show k < n by omega)
      obtain rfl : rx = r := Option.some.inj (hzx.symm.trans hz)
      replace hk : Hid _ := hk
      clear hz hzx
      go_wp2_with fail
      refine wp_region_held_drew (S := fun w' => Below wr.heap.size wr w') (by kernel_rfl) (Below.refl _ _).drew (fun hHeld => ?_)
      try dsimp only at hHeld
      have bd : Below wr.heap.size wr wr.drew := (Below.refl wr.heap.size wr).drew
      generalize wr.drew = wd at *
      try simp only [Act.put, List.setIfInBounds_toArray, List.set_cons_zero, List.set_cons_succ]
      refine wpAnyH_take (i := 0) (v := ?_) (by simp only [List.getElem?_toArray, List.getElem?_cons_zero]; rfl) (by kernel_rfl) (by kernel_rfl) (by kernel_rfl) (by intro _ _ _ h; exact h) (Or.inl ⟨by rfl, ?_⟩) hHeld ?_
      rotate_left 1
      · intro wq hSw
        try dsimp only at hSw
        go_simp
        try (with_reducible rfl)
      try simp only [Act.put, List.setIfInBounds_toArray, List.set_cons_zero, List.set_cons_succ]
      refine wpAnyH_take (i := 1) (v := ?_) (by simp only [List.getElem?_toArray, List.getElem?_cons_succ, List.getElem?_cons_zero]; rfl) (by kernel_rfl) (by kernel_rfl) (by kernel_rfl) (by intro _ _ _ h; exact h) (Or.inl ⟨by rfl, ?_⟩) hHeld ?_
      rotate_left 1
      · intro wq hSw
        try dsimp only at hSw
        go_simp
        try (with_reducible rfl)
      try simp only [Act.put, List.setIfInBounds_toArray, List.set_cons_zero, List.set_cons_succ]
      refine wpAnyH_take (i := 2) (v := ?_) (by simp only [List.getElem?_toArray, List.getElem?_cons_succ, List.getElem?_cons_zero]; rfl) (by kernel_rfl) (by kernel_rfl) (by kernel_rfl) (by intro _ _ _ h; exact h) (Or.inl ⟨by rfl, ?_⟩) hHeld ?_
      rotate_left 1
      · intro wq hSw
        try dsimp only at hSw
        go_simp
        try (with_reducible rfl)
      try simp only [Act.put, List.setIfInBounds_toArray, List.set_cons_zero, List.set_cons_succ]
      refine wpAnyH_take (i := 3) (v := ?_) (by simp only [List.getElem?_toArray, List.getElem?_cons_succ, List.getElem?_cons_zero]; rfl) (by kernel_rfl) (by kernel_rfl) (by kernel_rfl) (by intro _ _ _ h; exact h) (Or.inl ⟨by rfl, ?_⟩) hHeld ?_
      rotate_left 1
      · intro wq hSw
        try dsimp only at hSw
        have y0 := (hSw.cell hg).trans c0
        have y1 := (hSw.cell hg).trans c1
        have y2 := (hSw.cell hg).trans c2'
        go_simp
        try (with_reducible rfl)
      try simp only [Act.put, List.setIfInBounds_toArray, List.set_cons_zero, List.set_cons_succ]
      refine wpAnyH_take (i := 4) (v := ?_) (by simp only [List.getElem?_toArray, List.getElem?_cons_succ, List.getElem?_cons_zero]; rfl) (by kernel_rfl) (by kernel_rfl) (by kernel_rfl) (by intro _ _ _ h; exact h) (Or.inl ⟨by rfl, ?_⟩) hHeld ?_
      rotate_left 1
      · intro wq hSw
        try dsimp only at hSw
        go_simp
        try (with_reducible rfl)
      try simp only [Act.put, List.setIfInBounds_toArray, List.set_cons_zero, List.set_cons_succ]
      refine wpAnyH_take (i := 5) (v := ?_) (by simp only [List.getElem?_toArray, List.getElem?_cons_succ, List.getElem?_cons_zero]; rfl) (by kernel_rfl) (by kernel_rfl) (by kernel_rfl) (by intro _ _ _ h; exact h) (Or.inl ⟨by rfl, ?_⟩) hHeld ?_
      rotate_left 1
      · intro wq hSw
        try dsimp only at hSw
        go_simp
        try (with_reducible rfl)
      try simp only [Act.put, List.setIfInBounds_toArray, List.set_cons_zero, List.set_cons_succ]
      refine wpAnyH_take (i := 6) (v := ?_) (by simp only [List.getElem?_toArray, List.getElem?_cons_succ, List.getElem?_cons_zero]; rfl) (by kernel_rfl) (by kernel_rfl) (by kernel_rfl) (by intro _ _ _ h; exact h) (Or.inl ⟨by rfl, ?_⟩) hHeld ?_
      rotate_left 1
      · intro wq hSw
        try dsimp only at hSw
        go_simp
        try (with_reducible rfl)
      try simp only [Act.put, List.setIfInBounds_toArray, List.set_cons_zero, List.set_cons_succ]
      refine wpAnyH_take (i := 7) (v := ?_) (by simp only [List.getElem?_toArray, List.getElem?_cons_succ, List.getElem?_cons_zero]; rfl) (by kernel_rfl) (by kernel_rfl) (by kernel_rfl) (by intro _ _ _ h; exact h) (Or.inl ⟨by rfl, ?_⟩) hHeld ?_
      rotate_left 1
      · intro wq hSw
        try dsimp only at hSw
        have y0 := (hSw.cell hgx).trans e0
        have y1 := (hSw.cell hgx).trans e1
        have y2 := (hSw.cell hgx).trans e2
        go_simp
        try (with_reducible rfl)
      try simp only [Act.put, List.setIfInBounds_toArray, List.set_cons_zero, List.set_cons_succ]
      refine wpAnyH_ready (rs := [8]) (by kernel_rfl) (by simp) ?_
      refine AllReadyH.cons (by simp only [List.getElem?_toArray, List.getElem?_cons_succ, List.getElem?_cons_zero]; rfl) (fun K hK => ?_) AllReadyH.nil
      have hC := recSame_any rx.k rx.s Ai rx.l.length ci rx.l rx.k rx.s Ax rx.l.length cx rx.l wd (hS.below bd) (hX.below bd)
      rw [sameR_self] at hC
      go_simp
      refine hC.mono ?_
      clear hC
      rintro e w5 ⟨rfl, b5⟩
      go_wp2_with fail
      refine hK.out _ _ (bd.trans (b5.mono bd.size)) (fun hHeld => ?_)
      clear hK K
      try dsimp only at hHeld
      try simp only [Act.put, List.setIfInBounds_toArray, List.set_cons_zero, List.set_cons_succ]
      refine wpAnyH_take (i := 9) (v := ?_) (by simp only [List.getElem?_toArray, List.getElem?_cons_succ, List.getElem?_cons_zero]; rfl) (by kernel_rfl) (by kernel_rfl) (by kernel_rfl) (by intro _ _ _ h; exact h) (Or.inl ⟨by rfl, ?_⟩) hHeld ?_
      rotate_left 1
      · intro wq hSw
        try dsimp only at hSw
        go_simp
        try (with_reducible rfl)
      try simp only [Act.put, List.setIfInBounds_toArray, List.set_cons_zero, List.set_cons_succ]
      refine wpAnyH_done (by kernel_rfl) ?_ _
      go_wp2
      go_roundg g
      case measure => omega
      case rel => exact ⟨k + 1, by have := hk.out; omega, by first | rfl | (simp; done), br.trans (hHeld.mono br.size)⟩
    · go_wp2
      go_ret
      exact ⟨rfl, br⟩
end Go.Proofs.YtnejiclghnigiaaDoor
namespace Go.Proofs.YtnejiclghnigiaaDoor
open Go.RowKit Go.Wag
set_option linter.unusedVariables false
set_option maxRecDepth 20000

/-- Whether a zone may be: state, resets, how many bytes, how many last, the size. -/
def chkF (st rs n la size : Int) : Bool :=
  decide (1 ≤ size ∧ size ≤ 1048576 ∧ 0 ≤ rs ∧ rs ≤ 1073741824 ∧ 0 ≤ st ∧ st ≤ 3 ∧ n ≤ size ∧ 0 ≤ la ∧ la ≤ n ∧ (st = 0 → n = 0) ∧ (st = 1 ∨ st = 2 → 0 < n ∧ n < size))

set_option maxHeartbeats 1000000 in
theorem zCheck_any (st rs la size : Int) (A : Option Addr) (n c : Nat) (w : World) :
    Calls Tryd.prog 41 #[.agg #[.int .i64 st, .int .i64 rs, .slice A n c, .int .i64 la], .int .i64 size] w fun e w' => e = .returned (.bool (chkF st rs n la size)) ∧ Below w.heap.size w w' := by
  go_enter Tryd.func41, Tryd.ntmps41
  go_wp2
  all_goals
    go_ret
    go_tidy
    refine ⟨congrArg (fun b => Ending.returned (.bool b)) (?_ : (_ : Bool) = _), (Below.refl _ _).alloc (Nat.le_refl _) _⟩
    try simp only [beq_iff_eq, beq_eq_false_iff_ne] at *
    rw [Bool.eq_iff_iff]
    simp only [chkF, decide_eq_true_eq, beq_iff_eq, Bool.false_eq_true, false_iff]
    omega

theorem chk_all {st rs n la size : Int} (h : chkF st rs n la size = true) : 1 ≤ size ∧ size ≤ 1048576 ∧ 0 ≤ rs ∧ rs ≤ 1073741824 ∧ 0 ≤ st ∧ st ≤ 3 ∧ n ≤ size ∧ 0 ≤ la ∧ la ≤ n ∧ (st = 0 → n = 0) ∧ (st = 1 ∨ st = 2 → 0 < n ∧ n < size) := by
  simpa only [chkF, decide_eq_true_eq] using h

/-- How many bytes a zone takes. -/
def roomF (st rs n la size : Int) : Int := if chkF st rs n la size = true ∧ st ≠ 3 then size - n else 0

theorem zRoom_any (st rs la size : Int) (A : Option Addr) (n c : Nat) (w : World) :
    Calls Tryd.prog 53 #[.agg #[.int .i64 st, .int .i64 rs, .slice A n c, .int .i64 la], .int .i64 size] w fun e w' => e = .returned (.int .i64 (roomF st rs n la size)) ∧ Below w.heap.size w w' := by
  have hb : chkF st rs n la size = false ∨ wrap64 (size - n) = size - n := by
    cases h : chkF st rs n la size
    · exact .inl rfl
    · have := chk_all h
      refine .inr ?_
      unfold wrap64
      omega
  go_enter Tryd.func53, Tryd.ntmps53
  go_wp2_with fail
  have B0 := Blk.new w #[.int .i64 st, .int .i64 rs, .slice A n c, .int .i64 la] 56
  have b0 := (Below.refl w.heap.size w).alloc (Nat.le_refl _) (.cells #[.int .i64 st, .int .i64 rs, .slice A n c, .int .i64 la] 56)
  refine (zCheck_any st rs la size A n c _).mono ?_
  rintro e w1 ⟨rfl, b1⟩
  obtain ⟨c0, c1, c2, c3, _⟩ := (B0.under b1).four
  have b2 := b0.trans (b1.mono (by simp))
  go_wp2
  all_goals
    go_ret
    go_tidy
    refine ⟨congrArg (fun b => Ending.returned (.int .i64 b)) (?_ : (_ : Int) = _), b2⟩
    simp_all [roomF]

/-- The error of a zone that does not take a command. -/
def unlessF (b : Bool) : Int := if b = true then 0 else 30

theorem zerrorUnless_any (b : Bool) (w : World) : Calls Tryd.prog 97 #[.bool b] w fun e w' => e = .returned (.int .i64 (unlessF b)) ∧ w = w' := by
  cases b
  all_goals
    go_enter Tryd.func97, Tryd.ntmps97
    go_wp2
    go_ret
    exact ⟨rfl, rfl⟩

/-- What stands against m bytes more. -/
def appErrF (st rs n la size m : Int) : Int := if chkF st rs n la size = true ∧ m ≠ 0 then (if m ≤ roomF st rs n la size then 0 else 30) else 1

theorem zappendError_any (st rs la size m : Int) (A : Option Addr) (n c : Nat) (w : World) :
    Calls Tryd.prog 94 #[.agg #[.int .i64 st, .int .i64 rs, .slice A n c, .int .i64 la], .int .i64 size, .int .i64 m] w fun e w' => e = .returned (.int .i64 (appErrF st rs n la size m)) ∧ Below w.heap.size w w' := by
  have B0 := Blk.new w #[.int .i64 st, .int .i64 rs, .slice A n c, .int .i64 la] 56
  have b0 := (Below.refl w.heap.size w).alloc (Nat.le_refl _) (.cells #[.int .i64 st, .int .i64 rs, .slice A n c, .int .i64 la] 56)
  by_cases hk : chkF st rs n la size = true
  · by_cases hm : m = 0
    · go_enter Tryd.func94, Tryd.ntmps94
      go_wp2_with fail
      refine (zCheck_any st rs la size A n c _).mono ?_
      rintro e w1 ⟨rfl, b1⟩
      have b2 := b0.trans (b1.mono (by simp))
      go_wp2
      go_ret
      exact ⟨by rw [appErrF, if_neg (by simp [hm])]; rfl, b2⟩
    · go_enter Tryd.func94, Tryd.ntmps94
      go_wp2_with fail
      refine (zCheck_any st rs la size A n c _).mono ?_
      rintro e w1 ⟨rfl, b1⟩
      obtain ⟨c0, c1, c2, c3, _⟩ := (B0.under b1).four
      have b2 := b0.trans (b1.mono (by simp))
      go_wp2_with fail
      refine (zRoom_any st rs la size A n c w1).mono ?_
      rintro e w2 ⟨rfl, b3⟩
      have b4 := b2.trans (b3.mono b2.size)
      go_wp2_with fail
      refine (zerrorUnless_any _ w2).mono ?_
      rintro e w3 ⟨rfl, rfl⟩
      go_wp2
      go_ret
      exact ⟨by rw [appErrF, if_pos ⟨hk, hm⟩]; simp [unlessF], b4⟩
  · go_enter Tryd.func94, Tryd.ntmps94
    go_wp2_with fail
    refine (zCheck_any st rs la size A n c _).mono ?_
    rintro e w1 ⟨rfl, b1⟩
    have b2 := b0.trans (b1.mono (by simp))
    go_wp2
    go_ret
    exact ⟨by rw [appErrF, if_neg (fun h => hk h.1)]; rfl, b2⟩

/-- The commands that a state takes. -/
def takenF (st : Int) : Value := .agg #[.bool (decide (0 ≤ st ∧ st ≤ 3)), .bool (decide (st = 1 ∨ st = 2)), .bool (decide (st = 1))]

theorem ztaken_any (st : Int) (w : World) : Calls Tryd.prog 96 #[.int .i64 st] w fun e w' => e = .returned (takenF st) ∧ Below w.heap.size w w' := by
  go_enter Tryd.func96, Tryd.ntmps96
  go_wp2
  all_goals
    go_tidy
    try simp only [Exit.inBlock, Exit.then]
    refine ret_blk (g := w.heap.size) rfl rfl ((Blk.new _ _ _).alloc _) Tryd.underlying137 (by kernel_rfl) ⟨?_, (((Below.refl _ _).alloc (Nat.le_refl _) _).alloc (by simp) _)⟩
    simp_all [takenF]
    try omega

/-- The answer is a zone in memory of its own; nothing old has turned. -/
def ZoneNew (w : World) (st rs : Int) (l : List UInt8) (la : Int) (e : Ending) (w' : World) : Prop :=
  ∃ A n c, e = .returned (.agg #[.int .i64 st, .int .i64 rs, .slice A n c, .int .i64 la]) ∧ Nw 5 w w' A n c (l.map v8) ∧ Below w.heap.size w w'
theorem ZoneNew.mk {w w' : World} {st rs la : Int} {l : List UInt8} {A : Option Addr} {n c : Nat} (hN : Nw 5 w w' A n c (l.map v8)) (hB : Below w.heap.size w w') :
    ZoneNew w st rs l la (.returned (.agg #[.int .i64 st, .int .i64 rs, .slice A n c, .int .i64 la])) w' := ⟨A, n, c, rfl, hN, hB⟩
/-- The same, with an error beside it. -/
def ZoneErr (w : World) (st rs : Int) (l : List UInt8) (la er : Int) (e : Ending) (w' : World) : Prop :=
  ∃ A n c, e = .returned (.tuple #[.agg #[.int .i64 st, .int .i64 rs, .slice A n c, .int .i64 la], .int .i64 er]) ∧ Nw 5 w w' A n c (l.map v8) ∧ Below w.heap.size w w'
theorem ZoneErr.mk {w w' : World} {st rs la er : Int} {l : List UInt8} {A : Option Addr} {n c : Nat} (hN : Nw 5 w w' A n c (l.map v8)) (hB : Below w.heap.size w w') :
    ZoneErr w st rs l la er (.returned (.tuple #[.agg #[.int .i64 st, .int .i64 rs, .slice A n c, .int .i64 la], .int .i64 er])) w' := ⟨A, n, c, rfl, hN, hB⟩
theorem apart_at {g k : Nat} (h : k ≠ g) : ∀ ad, some (⟨g, 0, none⟩ : Addr) = some ad → ad.block ≠ k := by
  intro ad hA
  cases hA
  exact fun e => h e.symm

/-- The two blocks that 'copied' lays. -/
theorem zcopied_any (st rs la : Int) (A : Option Addr) (n c : Nat) (l : List UInt8) (w : World) (h : Sl w A n c (l.map v8)) (hn : n ≤ 10000000000000) :
    Calls Tryd.prog 66 #[.agg #[.int .i64 st, .int .i64 rs, .slice A n c, .int .i64 la]] w (ZoneNew w st rs l la) := by
  have hlen := h.len
  have hcap := h.cap
  have hbig := h.big
  obtain ⟨i0, hi, hz0, hz1, hz2⟩ := info_parts i5
  have hmk := fun W => run_mk (P := Tryd.prog) 24 5 i0 (.int .u8 0) 1 Tryd.underlying24 hi hz0 hz1 hz2 rfl .i64 .i64 (n : Int) (n : Int) n n rfl rfl (by omega) (by omega) (by omega) W
  go_enter Tryd.func66, Tryd.ntmps66
  have B1 := ((Blk.new w #[.int .i64 st, .int .i64 rs, .slice A n c, .int .i64 la] 56).alloc (.cells #[.int .i64 0, .int .i64 0, .slice none 0 0, .int .i64 0] 56)).alloc (.cells (mk0 (.int .u8 0) n) 5)
  have B2 := (Blk.new (w.alloc (.cells #[.int .i64 st, .int .i64 rs, .slice A n c, .int .i64 la] 56)) #[.int .i64 0, .int .i64 0, .slice none 0 0, .int .i64 0] 56).alloc (.cells (mk0 (.int .u8 0) n) 5)
  have HO := Own.made ((w.alloc (.cells #[.int .i64 st, .int .i64 rs, .slice A n c, .int .i64 la] 56)).alloc (.cells #[.int .i64 0, .int .i64 0, .slice none 0 0, .int .i64 0] 56)) (.int .u8 0) 5 n n (by omega) (by omega)
  have b1 := ((Below.refl w.heap.size w).alloc (Nat.le_refl _) (.cells #[.int .i64 st, .int .i64 rs, .slice A n c, .int .i64 la] 56)).alloc (by simp) (.cells #[.int .i64 0, .int .i64 0, .slice none 0 0, .int .i64 0] 56)
  have HC := ((h.alloc (.cells #[.int .i64 st, .int .i64 rs, .slice A n c, .int .i64 la] 56)).alloc (.cells #[.int .i64 0, .int .i64 0, .slice none 0 0, .int .i64 0] 56)).alloc (.cells (mk0 (.int .u8 0) n) 5)
  simp only [World.size_alloc] at HO B2 B1
  go_wp2_with (with_reducible refine wpList_cpy rfl (.tmp 8) (.tmp 10) 24 24 rfl rfl HO Tryd.underlying24 sz5 _ _ _ _ rfl HC (oneCell8 l) ?_
               intro w4 hw4
               rw [cpy_full _ _ _ hlen] at hw4
               have B3 := B1.ownAt hw4 (by omega)
               have B4 := B2.ownAt hw4 (by omega)
               obtain ⟨c0, c1, c2, c3, f0, f1, f2, f3⟩ := B3.four
               obtain ⟨d0, d1, d2, d3, g0, g1, g2, g3⟩ := B4.four)
  try simp only [Exit.inBlock, Exit.then]
  have hN0 : Nw 5 w w4 (some ⟨w.heap.size + 1 + 1, 0, none⟩) n n (l.map v8) := Nw.mono (w1 := (w.alloc (.cells #[] 0)).alloc (.cells #[] 0)) (by simpa [Nw] using hw4.own) (by simp; omega)
  have b4 : Below w.heap.size w w4 := hw4.belowAt (b1.alloc (by simp; omega) _) (by simp; omega) (by omega)
  exact ret_blk (g := w.heap.size + 1) rfl rfl (((((B4.far (by simp) _).set 0 _).set 1 _).set 2 _).set 3 _) Tryd.underlying56 (by kernel_rfl)
    (ZoneNew.mk (((((hN0.far (apart_at (by simp <;> omega)) _).far (apart_at (by simp <;> omega)) _).far (apart_at (by simp <;> omega)) _).far (apart_at (by simp <;> omega)) _).far (apart_at (by simp <;> omega)) _)
      (((((b4.setCell (Nat.le_refl _) _).setCell (by simp) _).setCell (by simp) _).setCell (by simp) _).setCell (by simp) _))
end Go.Proofs.YtnejiclghnigiaaDoor
namespace Go.Proofs.YtnejiclghnigiaaDoor
open Go.RowKit Go.Wag
set_option linter.unusedVariables false
set_option maxRecDepth 20000

/-- A zone variable in block k whose bytes are a row of one's own, apart from it. -/
structure ZVar (base B : Nat) (w : World) (k : Nat) (st rs la : Int) (A : Option Addr) (n c : Nat) (l : List UInt8) : Prop where
  blk : Blk w k #[.int .i64 st, .int .i64 rs, .slice A n c, .int .i64 la] 56
  own : w.ownsRow base 5 1 (.slice A n c) n (l.map v8)
  base_le : base ≤ w.heap.size
  apart : ∀ ad, A = some ad → B ≤ ad.block ∧ ad.block < k
  at_ : B ≤ k

/-- Nothing below B has turned, and a zone variable stands in block k. -/
def ZPost (base B : Nat) (w : World) (k : Nat) (st rs : Int) (l : List UInt8) (la : Int) (e : Ending) (w' : World) : Prop :=
  ∃ A n c, e = .returned (.tuple #[]) ∧ Blk w' k #[.int .i64 st, .int .i64 rs, .slice A n c, .int .i64 la] 56 ∧ w'.ownsRow base 5 1 (.slice A n c) n (l.map v8) ∧ Below B w w'

theorem ZVar.kept {base B : Nat} {k : Nat} {st rs la : Int} {A : Option Addr} {n c : Nat} {l : List UInt8} {w : World} (h : ZVar base B w k st rs la A n c l) (i : Nat) (u : Value) :
    (w.setCell ⟨k, i, none⟩ u).ownsRow base 5 1 (.slice A n c) n (l.map v8) :=
  World.ownsRow.kept h.own (grown_set w _ _) (by
    cases hA : A with
    | none => exact .inl rfl
    | some ad => exact .inr (fun hh => Nat.ne_of_lt (h.apart ad hA).2 (Option.some.inj hh)))

theorem zFinish1_any (base B : Nat) (k : Nat) (st rs la : Int) (A : Option Addr) (n c : Nat) (l : List UInt8) (w : World) (h : ZVar base B w k st rs la A n c l) :
    Calls Tryd.prog 99 #[.pointer (some ⟨k, 0, none⟩)] w (ZPost base B w k 3 rs l la) := by
  obtain ⟨c0, c1, c2, c3, f0, f1, f2, f3⟩ := h.blk.four
  go_enter Tryd.func99, Tryd.ntmps99
  go_wp2
  go_end0
  exact ⟨A, n, c, rfl, h.blk.set 0 _, h.kept 0 _, (Below.refl _ _).setCell h.at_ _⟩
theorem zClose1_any (base B : Nat) (k : Nat) (st rs la : Int) (A : Option Addr) (n c : Nat) (l : List UInt8) (w : World) (h : ZVar base B w k st rs la A n c l) :
    Calls Tryd.prog 100 #[.pointer (some ⟨k, 0, none⟩)] w (ZPost base B w k 2 rs l la) := by
  obtain ⟨c0, c1, c2, c3, f0, f1, f2, f3⟩ := h.blk.four
  go_enter Tryd.func100, Tryd.ntmps100
  go_wp2
  go_end0
  exact ⟨A, n, c, rfl, h.blk.set 0 _, h.kept 0 _, (Below.refl _ _).setCell h.at_ _⟩

theorem own_far {base : Nat} {e : TypeId} {w : World} {A : Option Addr} {n c : Nat} {xs : List Value} (h : w.ownsRow base e 1 (.slice A n c) n xs) {a : Addr} (ha : ∀ ad, A = some ad → ad.block ≠ a.block) (u : Value) : (w.setCell a u).ownsRow base e 1 (.slice A n c) n xs := by
  refine World.ownsRow.kept h (grown_set w a u) ?_
  cases A with
  | none => exact .inl rfl
  | some ad => exact .inr (fun hh => ha ad rfl (Option.some.inj hh))

theorem zReset1_any (base B : Nat) (k k1 : Nat) (st rs la st1 rs1 la1 : Int) (A A1 : Option Addr) (n c n1 c1 : Nat) (l : List UInt8) (w : World) (h : ZVar base B w k st rs la A n c l) (hz : Blk w k1 #[.int .i64 st1, .int .i64 rs1, .slice A1 n1 c1, .int .i64 la1] 56)
    (hr : wrap64 (rs1 + 1) = rs1 + 1) :
    Calls Tryd.prog 98 #[.pointer (some ⟨k1, 0, none⟩), .pointer (some ⟨k, 0, none⟩)] w (ZPost base B w k 0 (rs1 + 1) [] 0) := by
  obtain ⟨c0, c1, c2, c3, f0, f1, f2, f3⟩ := h.blk.four
  obtain ⟨d0, d1, d2, d3, _⟩ := hz.four
  go_enter Tryd.func98, Tryd.ntmps98
  go_wp2
  go_end0
  exact ⟨none, 0, 0, rfl, ((((h.blk.set 0 _).set 1 _).set 2 _).set 3 _), World.ownsRow_nil _ _ _ _, ((((Below.refl _ _).setCell h.at_ _).setCell h.at_ _).setCell h.at_ _).setCell h.at_ _⟩

/-- The state behind bytes that were put behind. -/
def fullF (n size : Int) : Int := if n = size then 3 else 1
theorem fullF_cases (n size : Int) : (n == size) = true ∧ fullF n size = 3 ∨ (n == size) = false ∧ fullF n size = 1 := by
  by_cases h : n = size
  · exact .inl ⟨by simp [h], by simp [fullF, h]⟩
  · exact .inr ⟨by simp [h], by simp [fullF, h]⟩

set_option maxHeartbeats 400000 in
theorem zAppend1_any (base B : Nat) (k kb ks tb ts : Nat) (st rs la size : Int) (A Ab : Option Addr) (n c nb cb : Nat) (l b : List UInt8) (w : World) (hz : ZVar base B w k st rs la A n c l)
    (hb : Blk w kb #[.slice Ab nb cb] tb) (hs : Blk w ks #[.int .i64 size] ts) (hks : ks < B) (hsl : Sl w Ab nb cb (b.map v8)) (hn : n + nb ≤ 10000000000000) (hB : B ≤ w.heap.size) :
    Calls Tryd.prog 95 #[.pointer (some ⟨k, 0, none⟩), .pointer (some ⟨kb, 0, none⟩), .pointer (some ⟨ks, 0, none⟩)] w (ZPost base B w k (fullF ((n : Int) + nb) size) rs (l ++ b) la) := by
  obtain ⟨c0, c1, c2, c3, f0, f1, f2, f3⟩ := hz.blk.four
  obtain ⟨d0, _⟩ := hb.one
  obtain ⟨i0, hi, hz0, hz1, hz2⟩ := info_parts i5
  have HO := Own.start hz.own hz.base_le
  have hk := hz.at_
  rcases fullF_cases ((n : Int) + nb) size with ⟨hq, hf⟩ | ⟨hq, hf⟩
  all_goals
    rw [hf]
    clear hf
    go_enter Tryd.func95, Tryd.ntmps95
    go_wp2_with (at_builtin
                 refine wpList_app rfl (.tmp 4) (.tmp 5) 24 rfl rfl HO i0 (.int .u8 0) 1 Tryd.underlying24 hi hz0 hz1 hz2 rfl _ _ _ _ rfl hsl (oneCell8 _) (by omega) (by omega) ?_
                 intro A2 c2 w2 hw2
                 have B2 := hz.blk.own hw2 (fun b hb => by
                   cases hA : A with
                   | none => rw [hA] at hb; cases hb
                   | some ad => rw [hA] at hb; exact fun e => Nat.ne_of_lt (hz.apart ad hA).2 ((Option.some.inj hb).trans e))
                 obtain ⟨e0, e1, e2, e3, g0, g1, g2, g3⟩ := B2.four
                 have b2 : Below B w w2 := hw2.below (Below.refl _ _) hB (fun b hb => by
                   cases hA : A with
                   | none => rw [hA] at hb; cases hb
                   | some ad => rw [hA] at hb; exact Option.some.inj hb ▸ (hz.apart ad hA).1)
                 obtain ⟨s0, _⟩ := (hs.below b2 hks).one)
    have hA2 : ∀ ad, A2 = some ad → ad.block ≠ k := fun ad hA e => by
      have hkl := hz.blk.lt
      subst hA
      rcases hw2.lies with hl | hl
      · cases hA' : A with
        | none => rw [hA'] at hl; cases hl
        | some a' =>
          rw [hA'] at hl
          have h1 := (hz.apart a' hA').2
          have h2 : ad.block = a'.block := Option.some.inj hl
          omega
      · have := hl ad.block rfl
        omega
    have hO := hw2.own
    rw [← List.map_append] at hO
    go_end0
  · exact ⟨_, _, _, rfl, ((B2.set 2 _).set 0 _).set 0 _, own_far (own_far (own_far hO hA2 _) hA2 _) hA2 _, ((b2.setCell hk _).setCell hk _).setCell hk _⟩
  · exact ⟨_, _, _, rfl, (B2.set 2 _).set 0 _, own_far (own_far hO hA2 _) hA2 _, (b2.setCell hk _).setCell hk _⟩

theorem ZVar.under {base B : Nat} {k : Nat} {st rs la : Int} {A : Option Addr} {n c : Nat} {l : List UInt8} {w w' : World} (h : ZVar base B w k st rs la A n c l) (hb : Below w.heap.size w w') : ZVar base B w' k st rs la A n c l :=
  ⟨h.blk.under hb, World.ownsRow.kept h.own (only_of hb none) (by cases hv : Value.ownBlock (.slice A n c) <;> simp), Nat.le_trans h.base_le hb.size, h.apart, h.at_⟩
/-- A zone variable that is laid behind a copy. -/
theorem ZVar.laid {W w : World} {A : Option Addr} {n c : Nat} {l : List UInt8} (h : Nw 5 W w A n c (l.map v8)) (hs : W.heap.size ≤ w.heap.size) (st' rs' la' : Int) :
    ZVar W.heap.size W.heap.size (w.alloc (.cells #[.int .i64 st', .int .i64 rs', .slice A n c, .int .i64 la'] 56)) w.heap.size st' rs' la' A n c l :=
  ⟨Blk.new _ _ _, World.ownsRow.alloc h _, by simp; omega, fun ad hA => by
    subst hA
    exact World.ownsRow.lt h ad.block rfl, hs⟩

theorem fd0 (a b c : Bool) (w : World) : (Instr.field 137 (.agg #[.bool a, .bool b, .bool c]) 0).run Tryd.prog w = .ok (.bool a) w := by kernel_rfl
theorem fd1 (a b c : Bool) (w : World) : (Instr.field 137 (.agg #[.bool a, .bool b, .bool c]) 1).run Tryd.prog w = .ok (.bool b) w := by kernel_rfl
theorem fd2 (a b c : Bool) (w : World) : (Instr.field 137 (.agg #[.bool a, .bool b, .bool c]) 2).run Tryd.prog w = .ok (.bool c) w := by kernel_rfl

theorem zdoUnless_no (er : Int) (her : (er == 0) = false) (v : Value) (w : World) : Calls Tryd.prog 93 #[.int .i64 er, v] w fun e w' => e = .returned (.int .i64 er) ∧ w = w' := by
  go_enter Tryd.func93, Tryd.ntmps93
  go_wp2
  go_ret
  exact ⟨rfl, rfl⟩

theorem zdoUnless_do (f : FuncId) (cap : Array Value) (w : World) (Q : Ending → World → Prop) (hent : ∀ w, (callFunc f cap).run Tryd.prog w = .ok (.enter f cap) w) (hQ : ∀ e w', Q e w' → e = .returned (.tuple #[])) (hc : Calls Tryd.prog f cap w Q) :
    Calls Tryd.prog 93 #[.int .i64 0, .func (.func f) #[] cap] w fun e w' => e = .returned (.int .i64 0) ∧ Q (.returned (.tuple #[])) w' := by
  go_enter Tryd.func93, Tryd.ntmps93
  go_wp2_with fail
  refine hc.mono ?_
  intro e w1 h
  obtain rfl := hQ e w1 h
  go_wp2
  go_ret
  exact ⟨rfl, h⟩

theorem ZPost.end_ {base B : Nat} {w : World} {k : Nat} {st rs : Int} {l : List UInt8} {la : Int} (e : Ending) (w' : World) (h : ZPost base B w k st rs l la e w') : e = .returned (.tuple #[]) := by
  obtain ⟨_, _, _, h, _⟩ := h
  exact h

/-- The store of a zone into the result's block kr, below the rows of one's own. -/
theorem zone_stored {base kr : Nat} {w w6 : World} {st rs la : Int} {a b c d : Value} {A : Option Addr} {n m : Nat} {l : List UInt8} (hB : Blk w6 kr #[a, b, c, d] 56) (hO : w6.ownsRow base 5 1 (.slice A n m) n (l.map v8)) (hk : kr < base) (hw : w.heap.size ≤ kr) (hb : Below w.heap.size w w6) :
    Blk ((((w6.setCell ⟨kr, 0, none⟩ (.int .i64 st)).setCell ⟨kr, 1, none⟩ (.int .i64 rs)).setCell ⟨kr, 2, none⟩ (.slice A n m)).setCell ⟨kr, 3, none⟩ (.int .i64 la)) kr #[.int .i64 st, .int .i64 rs, .slice A n m, .int .i64 la] 56 ∧
    Nw 5 w ((((w6.setCell ⟨kr, 0, none⟩ (.int .i64 st)).setCell ⟨kr, 1, none⟩ (.int .i64 rs)).setCell ⟨kr, 2, none⟩ (.slice A n m)).setCell ⟨kr, 3, none⟩ (.int .i64 la)) A n m (l.map v8) ∧
    Below w.heap.size w ((((w6.setCell ⟨kr, 0, none⟩ (.int .i64 st)).setCell ⟨kr, 1, none⟩ (.int .i64 rs)).setCell ⟨kr, 2, none⟩ (.slice A n m)).setCell ⟨kr, 3, none⟩ (.int .i64 la)) := by
  have hA : ∀ ad, A = some ad → ad.block ≠ kr := fun ad hA e => by
    subst hA
    have := (World.ownsRow.lt hO ad.block rfl).1
    omega
  refine ⟨((((hB.set 0 _).set 1 _).set 2 _).set 3 _), ?_, (((hb.setCell hw _).setCell hw _).setCell hw _).setCell hw _⟩
  have h4 := own_far (own_far (own_far (own_far hO (a := ⟨kr, 0, none⟩) hA (.int .i64 st)) (a := ⟨kr, 1, none⟩) hA (.int .i64 rs)) (a := ⟨kr, 2, none⟩) hA (.slice A n m)) (a := ⟨kr, 3, none⟩) hA (.int .i64 la)
  refine ⟨h4.1, ?_⟩
  rcases h4.2 with hn | ⟨g, cap, cur, hv, hg, rest⟩
  · exact .inl hn
  · exact .inr ⟨g, cap, cur, hv, by omega, rest⟩
theorem ret_zone2 {fn : Func} {tmps : Array Value} {p u : Tmp} {base kr : Nat} {w w6 : World} {st rs la er : Int} {a b c d : Value} {A : Option Addr} {n m : Nat} {l : List UInt8} (hr : fn.results = #[.cell p 56, .tmp u]) (hp : tmps.getD p undef = .pointer (some ⟨kr, 0, none⟩))
    (hv : tmps.getD u undef = .int .i64 er) (hB : Blk w6 kr #[a, b, c, d] 56) (hO : w6.ownsRow base 5 1 (.slice A n m) n (l.map v8)) (hk : kr < base) (hw : w.heap.size ≤ kr) (hb : Below w.heap.size w w6) :
    bodyPost Tryd.prog fn (ZoneErr w st rs l la er) .ret ⟨tmps, []⟩ ((((w6.setCell ⟨kr, 0, none⟩ (.int .i64 st)).setCell ⟨kr, 1, none⟩ (.int .i64 rs)).setCell ⟨kr, 2, none⟩ (.slice A n m)).setCell ⟨kr, 3, none⟩ (.int .i64 la)) := by
  obtain ⟨h1, h2, h3⟩ := zone_stored (st := st) (rs := rs) (la := la) hB hO hk hw hb
  exact ret_blk2 hr hp h1 Tryd.underlying56 (by kernel_rfl) hv (ZoneErr.mk h2 h3)
theorem ret_zone {fn : Func} {tmps : Array Value} {p : Tmp} {base kr : Nat} {w w6 : World} {st rs la : Int} {a b c d : Value} {A : Option Addr} {n m : Nat} {l : List UInt8} (hr : fn.results = #[.cell p 56]) (hp : tmps.getD p undef = .pointer (some ⟨kr, 0, none⟩))
    (hB : Blk w6 kr #[a, b, c, d] 56) (hO : w6.ownsRow base 5 1 (.slice A n m) n (l.map v8)) (hk : kr < base) (hw : w.heap.size ≤ kr) (hb : Below w.heap.size w w6) :
    bodyPost Tryd.prog fn (ZoneNew w st rs l la) .ret ⟨tmps, []⟩ ((((w6.setCell ⟨kr, 0, none⟩ (.int .i64 st)).setCell ⟨kr, 1, none⟩ (.int .i64 rs)).setCell ⟨kr, 2, none⟩ (.slice A n m)).setCell ⟨kr, 3, none⟩ (.int .i64 la)) := by
  obtain ⟨h1, h2, h3⟩ := zone_stored (st := st) (rs := rs) (la := la) hB hO hk hw hb
  exact ret_blk hr hp h1 Tryd.underlying56 (by kernel_rfl) (ZoneNew.mk h2 h3)

/-- Finish and Close: the state behind them, and the error. -/
def finSt (st : Int) : Int := if st = 1 ∨ st = 2 then 3 else st
def finEr (st : Int) : Int := if st = 1 ∨ st = 2 then 0 else 30
def cloSt (st : Int) : Int := if st = 1 then 2 else st
def cloEr (st : Int) : Int := if st = 1 then 0 else 30

theorem zFinish_any (st rs la : Int) (A : Option Addr) (n c : Nat) (l : List UInt8) (w : World) (h : Sl w A n c (l.map v8)) (hn : n ≤ 10000000000000) :
    Calls Tryd.prog 86 #[.agg #[.int .i64 st, .int .i64 rs, .slice A n c, .int .i64 la]] w (ZoneErr w (finSt st) rs l la (finEr st)) := by
  have b1 := ((Below.refl w.heap.size w).alloc (Nat.le_refl _) (.cells #[.int .i64 st, .int .i64 rs, .slice A n c, .int .i64 la] 56)).alloc (by simp) (.cells #[.int .i64 0, .int .i64 0, .slice none 0 0, .int .i64 0] 56)
  have B1 := (Blk.new w #[.int .i64 st, .int .i64 rs, .slice A n c, .int .i64 la] 56).alloc (.cells #[.int .i64 0, .int .i64 0, .slice none 0 0, .int .i64 0] 56)
  have B2 := (Blk.new (w.alloc (.cells #[.int .i64 st, .int .i64 rs, .slice A n c, .int .i64 la] 56)) #[.int .i64 0, .int .i64 0, .slice none 0 0, .int .i64 0] 56)
  have H1 := h.below b1
  go_enter Tryd.func86, Tryd.ntmps86
  go_wp2_with fail
  generalize hW1 : (w.alloc (.cells #[.int .i64 st, .int .i64 rs, .slice A n c, .int .i64 la] 56)).alloc (.cells #[.int .i64 0, .int .i64 0, .slice none 0 0, .int .i64 0] 56) = W1 at *
  refine (zcopied_any st rs la A n c l W1 H1 hn).mono ?_
  rintro e w2 ⟨A2, n2, c2, rfl, N2, b2⟩
  have hs1 : W1.heap.size = w.heap.size + 2 := by rw [← hW1]; simp
  have hs2 := b2.size
  rw [World.size_alloc] at B2
  obtain ⟨c0, c1, c2', c3, _⟩ := (B1.under b2).four
  have B3 := ((B2.under b2).alloc (.cells #[.int .i64 st, .int .i64 rs, .slice A2 n2 c2, .int .i64 la] 56))
  have Z3 := ZVar.laid N2 hs2 st rs la
  have b3 : Below w.heap.size w (w2.alloc (.cells #[.int .i64 st, .int .i64 rs, .slice A2 n2 c2, .int .i64 la] 56)) := (b1.trans (b2.mono (by omega))).alloc (by omega) _
  have hlt : w.heap.size < w2.heap.size := by omega
  have hlt2 : w.heap.size ≠ w2.heap.size := by omega
  go_wp2_with fail
  generalize hW3 : w2.alloc (.cells #[.int .i64 st, .int .i64 rs, .slice A2 n2 c2, .int .i64 la] 56) = W3 at *
  refine (ztaken_any st W3).mono ?_
  rintro e w4 ⟨rfl, b4⟩
  rw [takenF]
  have hfd := fd1
  go_wp2_with fail
  clear hfd
  refine (zerrorUnless_any _ w4).mono ?_
  rintro e w5 ⟨rfl, rfl⟩
  have Z4 := Z3.under b4
  have b5 := b3.trans (b4.mono b3.size)
  have B4 := B3.under b4
  go_wp2_with fail
  by_cases hst : st = 1 ∨ st = 2
  · have e1 : unlessF (decide (st = 1) || decide (st = 2)) = 0 := by rcases hst with rfl | rfl <;> rfl
    simp only [e1]
    clear e1
    refine (zdoUnless_do _ _ w4 _ (fun _ => by kernel_rfl) ZPost.end_ (zFinish1_any _ _ _ st rs la A2 n2 c2 l w4 Z4)).mono ?_
    rintro e w6 ⟨rfl, A6, n6, c6, _, B6, O6, b6⟩
    obtain ⟨d0, d1, d2, d3, _⟩ := B6.four
    have B7 := B4.below b6 (by omega)
    obtain ⟨g0, g1, g2, g3, f0, f1, f2, f3⟩ := B7.four
    have b7 := b5.trans (b6.mono (by omega))
    go_wp2
    try simp only [Exit.inBlock, Exit.then]
    rw [show finSt st = 3 by simp [finSt, hst], show finEr st = 0 by simp [finEr, hst]]
    exact ret_zone2 rfl rfl rfl B7 O6 (by omega) (by omega) b7
  · have e1 : unlessF (decide (st = 1) || decide (st = 2)) = 30 := by simp [unlessF, hst]
    simp only [e1]
    clear e1
    refine (zdoUnless_no 30 rfl _ w4).mono ?_
    rintro e w6 ⟨rfl, rfl⟩
    obtain ⟨d0, d1, d2, d3, _⟩ := Z4.blk.four
    obtain ⟨g0, g1, g2, g3, f0, f1, f2, f3⟩ := B4.four
    go_wp2
    try simp only [Exit.inBlock, Exit.then]
    rw [show finSt st = st by simp [finSt, hst], show finEr st = 30 by simp [finEr, hst]]
    exact ret_zone2 rfl rfl rfl B4 Z4.own (by omega) (by omega) b5
end Go.Proofs.YtnejiclghnigiaaDoor
namespace Go.Proofs.YtnejiclghnigiaaDoor
open Go.RowKit Go.Wag
set_option linter.unusedVariables false
set_option maxRecDepth 20000

theorem zClose_any (st rs la : Int) (A : Option Addr) (n c : Nat) (l : List UInt8) (w : World) (h : Sl w A n c (l.map v8)) (hn : n ≤ 10000000000000) :
    Calls Tryd.prog 87 #[.agg #[.int .i64 st, .int .i64 rs, .slice A n c, .int .i64 la]] w (ZoneErr w (cloSt st) rs l la (cloEr st)) := by
  have b1 := (((Below.refl w.heap.size w).alloc (Nat.le_refl _) (.cells #[.int .i64 st, .int .i64 rs, .slice A n c, .int .i64 la] 56)).alloc (by simp <;> omega) (.cells #[.int .i64 0, .int .i64 0, .slice none 0 0, .int .i64 0] 56))
  have B0 := ((Blk.new w #[.int .i64 st, .int .i64 rs, .slice A n c, .int .i64 la] 56).alloc (.cells #[.int .i64 0, .int .i64 0, .slice none 0 0, .int .i64 0] 56))
  have B1 := (Blk.new (w.alloc (.cells #[.int .i64 st, .int .i64 rs, .slice A n c, .int .i64 la] 56)) #[.int .i64 0, .int .i64 0, .slice none 0 0, .int .i64 0] 56)
  simp only [World.size_alloc] at B1
  have H1 := h.below b1
  go_enter Tryd.func87, Tryd.ntmps87
  go_wp2_with fail
  generalize hW1 : ((w.alloc (.cells #[.int .i64 st, .int .i64 rs, .slice A n c, .int .i64 la] 56)).alloc (.cells #[.int .i64 0, .int .i64 0, .slice none 0 0, .int .i64 0] 56)) = W1 at *
  refine (zcopied_any st rs la A n c l W1 H1 hn).mono ?_
  rintro e w2 ⟨A2, n2, c2, rfl, N2, b2⟩
  have hs1 : W1.heap.size = w.heap.size + 2 := by rw [← hW1]; simp
  have hs2 := b2.size
  have hlt : w.heap.size < w2.heap.size ∧ w.heap.size + 1 < w2.heap.size := by omega
  have E0 := B0.under b2
  obtain ⟨q00, q01, q02, q03, _⟩ := E0.four
  have F0 := E0.alloc (.cells #[.int .i64 st, .int .i64 rs, .slice A2 n2 c2, .int .i64 la] 56)
  have F1 := (B1.under b2).alloc (.cells #[.int .i64 st, .int .i64 rs, .slice A2 n2 c2, .int .i64 la] 56)
  have Z3 := ZVar.laid N2 hs2 st rs la
  have b3 : Below w.heap.size w (w2.alloc (.cells #[.int .i64 st, .int .i64 rs, .slice A2 n2 c2, .int .i64 la] 56)) := (b1.trans (b2.mono (by omega))).alloc (by omega) _
  go_wp2_with fail
  generalize hW3 : w2.alloc (.cells #[.int .i64 st, .int .i64 rs, .slice A2 n2 c2, .int .i64 la] 56) = W3 at *
  refine (ztaken_any st W3).mono ?_
  rintro e w4 ⟨rfl, b4⟩
  rw [takenF]
  have Z4 := Z3.under b4
  have b5 := b3.trans (b4.mono b3.size)
  have R4 := F1.under b4
  have hfd := fd2
  go_wp2_with fail
  clear hfd
  refine (zerrorUnless_any _ w4).mono ?_
  rintro e w5 ⟨rfl, rfl⟩
  go_wp2_with fail
  by_cases hst : st = 1
  · simp only [show unlessF (decide (st = 1)) = 0 by simp [unlessF, hst]]
    refine (zdoUnless_do _ _ w4 _ (fun _ => by kernel_rfl) ZPost.end_ (zClose1_any _ _ _ st rs la A2 n2 c2 l w4 Z4)).mono ?_
    rintro e w6 ⟨rfl, A6, n6, c6, _, B6, O6, b6⟩
    obtain ⟨d0, d1, d2, d3, _⟩ := B6.four
    have B7 := R4.below b6 (by omega)
    obtain ⟨g0, g1, g2, g3, f0, f1, f2, f3⟩ := B7.four
    have b7 := b5.trans (b6.mono (by omega))
    go_wp2
    try simp only [Exit.inBlock, Exit.then]
    rw [show cloSt st = 2 by simp [cloSt, hst], show cloEr st = 0 by simp [cloEr, hst]]
    exact ret_zone2 rfl rfl rfl B7 O6 (by omega) (by omega) b7
  · simp only [show unlessF (decide (st = 1)) = 30 by simp [unlessF, hst]]
    refine (zdoUnless_no 30 rfl _ w4).mono ?_
    rintro e w6 ⟨rfl, rfl⟩
    obtain ⟨d0, d1, d2, d3, _⟩ := Z4.blk.four
    obtain ⟨g0, g1, g2, g3, f0, f1, f2, f3⟩ := R4.four
    go_wp2
    try simp only [Exit.inBlock, Exit.then]
    rw [show cloSt st = st by simp [cloSt, hst], show cloEr st = 30 by simp [cloEr, hst]]
    exact ret_zone2 rfl rfl rfl R4 Z4.own (by omega) (by omega) b5

theorem zFlush_any (st rs la : Int) (A : Option Addr) (n c : Nat) (l : List UInt8) (w : World) (h : Sl w A n c (l.map v8)) (hn : n ≤ 10000000000000) :
    Calls Tryd.prog 89 #[.agg #[.int .i64 st, .int .i64 rs, .slice A n c, .int .i64 la]] w (ZoneNew w st rs l l.length) := by
  have hll : Hid (l.length = n) := h.len8
  have b1 := (((Below.refl w.heap.size w).alloc (Nat.le_refl _) (.cells #[.int .i64 st, .int .i64 rs, .slice A n c, .int .i64 la] 56)).alloc (by simp <;> omega) (.cells #[.int .i64 0, .int .i64 0, .slice none 0 0, .int .i64 0] 56))
  have B0 := ((Blk.new w #[.int .i64 st, .int .i64 rs, .slice A n c, .int .i64 la] 56).alloc (.cells #[.int .i64 0, .int .i64 0, .slice none 0 0, .int .i64 0] 56))
  have B1 := (Blk.new (w.alloc (.cells #[.int .i64 st, .int .i64 rs, .slice A n c, .int .i64 la] 56)) #[.int .i64 0, .int .i64 0, .slice none 0 0, .int .i64 0] 56)
  simp only [World.size_alloc] at B1
  have H1 := h.below b1
  go_enter Tryd.func89, Tryd.ntmps89
  go_wp2_with fail
  generalize hW1 : ((w.alloc (.cells #[.int .i64 st, .int .i64 rs, .slice A n c, .int .i64 la] 56)).alloc (.cells #[.int .i64 0, .int .i64 0, .slice none 0 0, .int .i64 0] 56)) = W1 at *
  refine (zcopied_any st rs la A n c l W1 H1 hn).mono ?_
  rintro e w2 ⟨A2, n2, c2, rfl, N2, b2⟩
  have hs1 : W1.heap.size = w.heap.size + 2 := by rw [← hW1]; simp
  have hs2 := b2.size
  have hlt : w.heap.size < w2.heap.size ∧ w.heap.size + 1 < w2.heap.size := by omega
  have E0 := B0.under b2
  obtain ⟨q00, q01, q02, q03, _⟩ := E0.four
  have F0 := E0.alloc (.cells #[.int .i64 st, .int .i64 rs, .slice A2 n2 c2, .int .i64 la] 56)
  have F1 := (B1.under b2).alloc (.cells #[.int .i64 st, .int .i64 rs, .slice A2 n2 c2, .int .i64 la] 56)
  have Z3 := ZVar.laid N2 hs2 st rs la
  have b3 : Below w.heap.size w (w2.alloc (.cells #[.int .i64 st, .int .i64 rs, .slice A2 n2 c2, .int .i64 la] 56)) := (b1.trans (b2.mono (by omega))).alloc (by omega) _
  obtain ⟨g0, g1, g2, g3, f0, f1, f2, f3⟩ := (B1.under b2).four
  have hne : ¬ (w.heap.size + 1 = w2.heap.size) := by omega
  have hnl : Hid (((l.length : Nat) : Int) = n2) := congrArg Int.ofNat N2.sl.len8
  go_wp2
  try simp only [Exit.inBlock, Exit.then]
  obtain ⟨h1, h2, h3⟩ := zone_stored (st := st) (rs := rs) (la := (n2 : Int)) (B1.under b2) N2 (by omega) (by omega) (b1.trans (b2.mono (by omega)))
  rw [hnl.out]
  exact ret_blk rfl rfl (h1.alloc _) Tryd.underlying56 (by kernel_rfl) (ZoneNew.mk (World.ownsRow.alloc h2 _) (h3.alloc h3.size _))

/-- Whether a zone takes a reset; what it is behind it, and the error. -/
def resB (st rs : Int) : Bool := decide (0 ≤ rs) && decide (rs < 1073741824) && decide (0 ≤ st ∧ st ≤ 3)
def resSt (st rs : Int) : Int := if resB st rs then 0 else st
def resRs (st rs : Int) : Int := if resB st rs then rs + 1 else rs
def resLa (st rs la : Int) : Int := if resB st rs then 0 else la
def resDa (st rs : Int) (l : List UInt8) : List UInt8 := if resB st rs then [] else l
def resEr (st rs : Int) : Int := if resB st rs then 0 else 30
theorem wrap64_small {x : Int} (h0 : -9223372036854775808 ≤ x) (h1 : x < 9223372036854775808) : wrap64 x = x := by
  unfold wrap64
  omega

set_option maxHeartbeats 400000 in
theorem zReset_any (st rs la : Int) (A : Option Addr) (n c : Nat) (l : List UInt8) (w : World) (h : Sl w A n c (l.map v8)) (hn : n ≤ 10000000000000) :
    Calls Tryd.prog 85 #[.agg #[.int .i64 st, .int .i64 rs, .slice A n c, .int .i64 la]] w (ZoneErr w (resSt st rs) (resRs st rs) (resDa st rs l) (resLa st rs la) (resEr st rs)) := by
  by_cases hr : (decide (0 ≤ rs) && decide (rs < 1073741824)) = true
  · have hr1 : 0 ≤ rs ∧ rs < 1073741824 := by simpa using hr
    have b1 := (((Below.refl w.heap.size w).alloc (Nat.le_refl _) (.cells #[.int .i64 st, .int .i64 rs, .slice A n c, .int .i64 la] 56)).alloc (by simp <;> omega) (.cells #[.int .i64 0, .int .i64 0, .slice none 0 0, .int .i64 0] 56))
    have B0 := ((Blk.new w #[.int .i64 st, .int .i64 rs, .slice A n c, .int .i64 la] 56).alloc (.cells #[.int .i64 0, .int .i64 0, .slice none 0 0, .int .i64 0] 56))
    have B1 := (Blk.new (w.alloc (.cells #[.int .i64 st, .int .i64 rs, .slice A n c, .int .i64 la] 56)) #[.int .i64 0, .int .i64 0, .slice none 0 0, .int .i64 0] 56)
    simp only [World.size_alloc] at B1
    have H1 := h.below b1
    go_enter Tryd.func85, Tryd.ntmps85
    go_wp2_with fail
    generalize hW1 : ((w.alloc (.cells #[.int .i64 st, .int .i64 rs, .slice A n c, .int .i64 la] 56)).alloc (.cells #[.int .i64 0, .int .i64 0, .slice none 0 0, .int .i64 0] 56)) = W1 at *
    refine (zcopied_any st rs la A n c l W1 H1 hn).mono ?_
    rintro e w2 ⟨A2, n2, c2, rfl, N2, b2⟩
    have hs1 : W1.heap.size = w.heap.size + 2 := by rw [← hW1]; simp
    have hs2 := b2.size
    have hlt : w.heap.size < w2.heap.size ∧ w.heap.size + 1 < w2.heap.size := by omega
    have E0 := B0.under b2
    obtain ⟨q00, q01, q02, q03, _⟩ := E0.four
    have F0 := E0.alloc (.cells #[.int .i64 st, .int .i64 rs, .slice A2 n2 c2, .int .i64 la] 56)
    have F1 := (B1.under b2).alloc (.cells #[.int .i64 st, .int .i64 rs, .slice A2 n2 c2, .int .i64 la] 56)
    have Z3 := ZVar.laid N2 hs2 st rs la
    have b3 : Below w.heap.size w (w2.alloc (.cells #[.int .i64 st, .int .i64 rs, .slice A2 n2 c2, .int .i64 la] 56)) := (b1.trans (b2.mono (by omega))).alloc (by omega) _
    go_wp2_with fail
    generalize hW3 : w2.alloc (.cells #[.int .i64 st, .int .i64 rs, .slice A2 n2 c2, .int .i64 la] 56) = W3 at *
    refine (ztaken_any st W3).mono ?_
    rintro e w4 ⟨rfl, b4⟩
    rw [takenF]
    have Z4 := Z3.under b4
    have b5 := b3.trans (b4.mono b3.size)
    have R4 := F1.under b4
    have G4 := F0.under b4
    have hfd := fd0
    go_wp2_with fail
    clear hfd
    refine (zerrorUnless_any _ w4).mono ?_
    rintro e w5 ⟨rfl, rfl⟩
    go_wp2_with fail
    by_cases hst : 0 ≤ st ∧ st ≤ 3
    · have hB : resB st rs = true := by simp [resB, hr1, hst]
      simp only [show unlessF (decide (0 ≤ st) && decide (st ≤ 3)) = 0 by simp [unlessF, hst]]
      refine (zdoUnless_do _ _ w4 _ (fun _ => by kernel_rfl) ZPost.end_ (zReset1_any _ _ _ _ st rs la st rs la A2 A n2 c2 n c l w4 Z4 G4 (wrap64_small (by omega) (by omega)))).mono ?_
      rintro e w6 ⟨rfl, A6, n6, c6, _, B6, O6, b6⟩
      obtain ⟨d0, d1, d2, d3, _⟩ := B6.four
      have B7 := R4.below b6 (by omega)
      obtain ⟨g0, g1, g2, g3, f0, f1, f2, f3⟩ := B7.four
      have b7 := b5.trans (b6.mono (by omega))
      go_wp2
      try simp only [Exit.inBlock, Exit.then]
      rw [show resSt st rs = 0 by simp [resSt, hB], show resRs st rs = rs + 1 by simp [resRs, hB], show resDa st rs l = [] by simp [resDa, hB], show resLa st rs la = 0 by simp [resLa, hB], show resEr st rs = 0 by simp [resEr, hB]]
      exact ret_zone2 rfl rfl rfl B7 O6 (by omega) (by omega) b7
    · have hB : resB st rs = false := by simp [resB, hr1]; omega
      simp only [show unlessF (decide (0 ≤ st) && decide (st ≤ 3)) = 30 by simp [unlessF]; omega]
      refine (zdoUnless_no 30 rfl _ w4).mono ?_
      rintro e w6 ⟨rfl, rfl⟩
      obtain ⟨d0, d1, d2, d3, _⟩ := Z4.blk.four
      obtain ⟨g0, g1, g2, g3, f0, f1, f2, f3⟩ := R4.four
      go_wp2
      try simp only [Exit.inBlock, Exit.then]
      rw [show resSt st rs = st by simp [resSt, hB], show resRs st rs = rs by simp [resRs, hB], show resDa st rs l = l by simp [resDa, hB], show resLa st rs la = la by simp [resLa, hB], show resEr st rs = 30 by simp [resEr, hB]]
      exact ret_zone2 rfl rfl rfl R4 Z4.own (by omega) (by omega) b5
  · have hr1 : rs < 0 ∨ 1073741824 ≤ rs := by simp at hr; omega
    rcases hr1 with hr1 | hr1
    · have hB : Hid (resB st rs = false) := by show resB st rs = false; simp [resB]; omega
      clear hr
      have b1 := (((Below.refl w.heap.size w).alloc (Nat.le_refl _) (.cells #[.int .i64 st, .int .i64 rs, .slice A n c, .int .i64 la] 56)).alloc (by simp <;> omega) (.cells #[.int .i64 0, .int .i64 0, .slice none 0 0, .int .i64 0] 56))
      have B0 := ((Blk.new w #[.int .i64 st, .int .i64 rs, .slice A n c, .int .i64 la] 56).alloc (.cells #[.int .i64 0, .int .i64 0, .slice none 0 0, .int .i64 0] 56))
      have B1 := (Blk.new (w.alloc (.cells #[.int .i64 st, .int .i64 rs, .slice A n c, .int .i64 la] 56)) #[.int .i64 0, .int .i64 0, .slice none 0 0, .int .i64 0] 56)
      simp only [World.size_alloc] at B1
      have H1 := h.below b1
      go_enter Tryd.func85, Tryd.ntmps85
      go_wp2_with fail
      generalize hW1 : ((w.alloc (.cells #[.int .i64 st, .int .i64 rs, .slice A n c, .int .i64 la] 56)).alloc (.cells #[.int .i64 0, .int .i64 0, .slice none 0 0, .int .i64 0] 56)) = W1 at *
      refine (zcopied_any st rs la A n c l W1 H1 hn).mono ?_
      rintro e w2 ⟨A2, n2, c2, rfl, N2, b2⟩
      have hs1 : W1.heap.size = w.heap.size + 2 := by rw [← hW1]; simp
      have hs2 := b2.size
      have hlt : w.heap.size < w2.heap.size ∧ w.heap.size + 1 < w2.heap.size := by omega
      have E0 := B0.under b2
      obtain ⟨q00, q01, q02, q03, _⟩ := E0.four
      have F0 := E0.alloc (.cells #[.int .i64 st, .int .i64 rs, .slice A2 n2 c2, .int .i64 la] 56)
      have F1 := (B1.under b2).alloc (.cells #[.int .i64 st, .int .i64 rs, .slice A2 n2 c2, .int .i64 la] 56)
      have Z3 := ZVar.laid N2 hs2 st rs la
      have b3 : Below w.heap.size w (w2.alloc (.cells #[.int .i64 st, .int .i64 rs, .slice A2 n2 c2, .int .i64 la] 56)) := (b1.trans (b2.mono (by omega))).alloc (by omega) _
      go_wp2_with fail
      generalize hW3 : w2.alloc (.cells #[.int .i64 st, .int .i64 rs, .slice A2 n2 c2, .int .i64 la] 56) = W3 at *
      refine (zerrorUnless_any _ W3).mono ?_
      rintro e w5 ⟨rfl, rfl⟩
      have R4 := F1
      have Z4 := Z3
      have b5 := b3
      go_wp2_with fail
      have hB := hB.out
      simp only [show unlessF false = 30 from rfl]
      refine (zdoUnless_no 30 rfl _ W3).mono ?_
      rintro e w6 ⟨rfl, rfl⟩
      obtain ⟨d0, d1, d2, d3, _⟩ := Z4.blk.four
      obtain ⟨g0, g1, g2, g3, f0, f1, f2, f3⟩ := R4.four
      go_wp2
      try simp only [Exit.inBlock, Exit.then]
      rw [show resSt st rs = st by simp [resSt, hB], show resRs st rs = rs by simp [resRs, hB], show resDa st rs l = l by simp [resDa, hB], show resLa st rs la = la by simp [resLa, hB], show resEr st rs = 30 by simp [resEr, hB]]
      exact ret_zone2 rfl rfl rfl R4 Z4.own (by omega) (by omega) b5
    · have hB : Hid (resB st rs = false) := by show resB st rs = false; simp [resB]; omega
      clear hr
      have b1 := (((Below.refl w.heap.size w).alloc (Nat.le_refl _) (.cells #[.int .i64 st, .int .i64 rs, .slice A n c, .int .i64 la] 56)).alloc (by simp <;> omega) (.cells #[.int .i64 0, .int .i64 0, .slice none 0 0, .int .i64 0] 56))
      have B0 := ((Blk.new w #[.int .i64 st, .int .i64 rs, .slice A n c, .int .i64 la] 56).alloc (.cells #[.int .i64 0, .int .i64 0, .slice none 0 0, .int .i64 0] 56))
      have B1 := (Blk.new (w.alloc (.cells #[.int .i64 st, .int .i64 rs, .slice A n c, .int .i64 la] 56)) #[.int .i64 0, .int .i64 0, .slice none 0 0, .int .i64 0] 56)
      simp only [World.size_alloc] at B1
      have H1 := h.below b1
      go_enter Tryd.func85, Tryd.ntmps85
      go_wp2_with fail
      generalize hW1 : ((w.alloc (.cells #[.int .i64 st, .int .i64 rs, .slice A n c, .int .i64 la] 56)).alloc (.cells #[.int .i64 0, .int .i64 0, .slice none 0 0, .int .i64 0] 56)) = W1 at *
      refine (zcopied_any st rs la A n c l W1 H1 hn).mono ?_
      rintro e w2 ⟨A2, n2, c2, rfl, N2, b2⟩
      have hs1 : W1.heap.size = w.heap.size + 2 := by rw [← hW1]; simp
      have hs2 := b2.size
      have hlt : w.heap.size < w2.heap.size ∧ w.heap.size + 1 < w2.heap.size := by omega
      have E0 := B0.under b2
      obtain ⟨q00, q01, q02, q03, _⟩ := E0.four
      have F0 := E0.alloc (.cells #[.int .i64 st, .int .i64 rs, .slice A2 n2 c2, .int .i64 la] 56)
      have F1 := (B1.under b2).alloc (.cells #[.int .i64 st, .int .i64 rs, .slice A2 n2 c2, .int .i64 la] 56)
      have Z3 := ZVar.laid N2 hs2 st rs la
      have b3 : Below w.heap.size w (w2.alloc (.cells #[.int .i64 st, .int .i64 rs, .slice A2 n2 c2, .int .i64 la] 56)) := (b1.trans (b2.mono (by omega))).alloc (by omega) _
      go_wp2_with fail
      generalize hW3 : w2.alloc (.cells #[.int .i64 st, .int .i64 rs, .slice A2 n2 c2, .int .i64 la] 56) = W3 at *
      refine (zerrorUnless_any _ W3).mono ?_
      rintro e w5 ⟨rfl, rfl⟩
      have R4 := F1
      have Z4 := Z3
      have b5 := b3
      go_wp2_with fail
      have hB := hB.out
      simp only [show unlessF false = 30 from rfl]
      refine (zdoUnless_no 30 rfl _ W3).mono ?_
      rintro e w6 ⟨rfl, rfl⟩
      obtain ⟨d0, d1, d2, d3, _⟩ := Z4.blk.four
      obtain ⟨g0, g1, g2, g3, f0, f1, f2, f3⟩ := R4.four
      go_wp2
      try simp only [Exit.inBlock, Exit.then]
      rw [show resSt st rs = st by simp [resSt, hB], show resRs st rs = rs by simp [resRs, hB], show resDa st rs l = l by simp [resDa, hB], show resLa st rs la = la by simp [resLa, hB], show resEr st rs = 30 by simp [resEr, hB]]
      exact ret_zone2 rfl rfl rfl R4 Z4.own (by omega) (by omega) b5

/-- Append: the state and the bytes behind it. -/
def appSt (st rs n la size m : Int) : Int := if appErrF st rs n la size m = 0 then fullF (n + m) size else st
def appDa (st rs n la size m : Int) (l b : List UInt8) : List UInt8 := if appErrF st rs n la size m = 0 then l ++ b else l

set_option maxHeartbeats 400000 in
theorem zAppend_any (st rs la size : Int) (Ab : Option Addr) (nb cb : Nat) (b : List UInt8) (A : Option Addr) (n c : Nat) (l : List UInt8) (w : World) (h : Sl w A n c (l.map v8)) (hb : Sl w Ab nb cb (b.map v8)) (hn : n ≤ 10000000000000) (hnb : n + nb ≤ 10000000000000) :
    Calls Tryd.prog 84 #[.agg #[.int .i64 st, .int .i64 rs, .slice A n c, .int .i64 la], .int .i64 size, .slice Ab nb cb] w (ZoneErr w (appSt st rs n la size nb) rs (appDa st rs n la size nb l b) la (appErrF st rs n la size nb)) := by
  have b1 := (((((Below.refl w.heap.size w).alloc (Nat.le_refl _) (.cells #[.int .i64 st, .int .i64 rs, .slice A n c, .int .i64 la] 56)).alloc (by simp <;> omega) (.cells #[.int .i64 size] 3)).alloc (by simp <;> omega) (.cells #[.slice Ab nb cb] 24)).alloc (by simp <;> omega) (.cells #[.int .i64 0, .int .i64 0, .slice none 0 0, .int .i64 0] 56))
  have B0 := ((((Blk.new w #[.int .i64 st, .int .i64 rs, .slice A n c, .int .i64 la] 56).alloc (.cells #[.int .i64 size] 3)).alloc (.cells #[.slice Ab nb cb] 24)).alloc (.cells #[.int .i64 0, .int .i64 0, .slice none 0 0, .int .i64 0] 56))
  have B1 := (((Blk.new (w.alloc (.cells #[.int .i64 st, .int .i64 rs, .slice A n c, .int .i64 la] 56)) #[.int .i64 size] 3).alloc (.cells #[.slice Ab nb cb] 24)).alloc (.cells #[.int .i64 0, .int .i64 0, .slice none 0 0, .int .i64 0] 56))
  simp only [World.size_alloc] at B1
  have B2 := ((Blk.new ((w.alloc (.cells #[.int .i64 st, .int .i64 rs, .slice A n c, .int .i64 la] 56)).alloc (.cells #[.int .i64 size] 3)) #[.slice Ab nb cb] 24).alloc (.cells #[.int .i64 0, .int .i64 0, .slice none 0 0, .int .i64 0] 56))
  simp only [World.size_alloc] at B2
  have B3 := (Blk.new (((w.alloc (.cells #[.int .i64 st, .int .i64 rs, .slice A n c, .int .i64 la] 56)).alloc (.cells #[.int .i64 size] 3)).alloc (.cells #[.slice Ab nb cb] 24)) #[.int .i64 0, .int .i64 0, .slice none 0 0, .int .i64 0] 56)
  simp only [World.size_alloc] at B3
  have H1 := h.below b1
  go_enter Tryd.func84, Tryd.ntmps84
  go_wp2_with fail
  generalize hW1 : ((((w.alloc (.cells #[.int .i64 st, .int .i64 rs, .slice A n c, .int .i64 la] 56)).alloc (.cells #[.int .i64 size] 3)).alloc (.cells #[.slice Ab nb cb] 24)).alloc (.cells #[.int .i64 0, .int .i64 0, .slice none 0 0, .int .i64 0] 56)) = W1 at *
  refine (zcopied_any st rs la A n c l W1 H1 hn).mono ?_
  rintro e w2 ⟨A2, n2, c2, rfl, N2, b2⟩
  obtain rfl : n2 = n := by have h1 := N2.sl.len8; have h2 := h.len8; omega
  have hs1 : W1.heap.size = w.heap.size + 4 := by rw [← hW1]; simp
  have hs2 := b2.size
  have hlt : w.heap.size < w2.heap.size ∧ w.heap.size + 1 < w2.heap.size ∧ w.heap.size + 2 < w2.heap.size ∧ w.heap.size + 3 < w2.heap.size := by omega
  have E0 := B0.under b2
  obtain ⟨q00, q01, q02, q03, _⟩ := E0.four
  have F0 := E0.alloc (.cells #[.int .i64 st, .int .i64 rs, .slice A2 n2 c2, .int .i64 la] 56)
  have E1 := B1.under b2
  obtain ⟨q10, _⟩ := E1.one
  have F1 := E1.alloc (.cells #[.int .i64 st, .int .i64 rs, .slice A2 n2 c2, .int .i64 la] 56)
  have E2 := B2.under b2
  obtain ⟨q20, _⟩ := E2.one
  have F2 := E2.alloc (.cells #[.int .i64 st, .int .i64 rs, .slice A2 n2 c2, .int .i64 la] 56)
  have F3 := (B3.under b2).alloc (.cells #[.int .i64 st, .int .i64 rs, .slice A2 n2 c2, .int .i64 la] 56)
  have Z3 := ZVar.laid N2 hs2 st rs la
  have b3 : Below w.heap.size w (w2.alloc (.cells #[.int .i64 st, .int .i64 rs, .slice A2 n2 c2, .int .i64 la] 56)) := (b1.trans (b2.mono (by omega))).alloc (by omega) _
  go_wp2_with fail
  generalize hW3 : w2.alloc (.cells #[.int .i64 st, .int .i64 rs, .slice A2 n2 c2, .int .i64 la] 56) = W3 at *
  refine (zappendError_any st rs la size nb A n2 c W3).mono ?_
  rintro e w4 ⟨rfl, b4⟩
  have Z4 := Z3.under b4
  have b5 := b3.trans (b4.mono b3.size)
  have R4 := F3.under b4
  have hsb := hb.below b5
  obtain ⟨er, her⟩ : ∃ er, Hid (appErrF st rs n2 la size nb = er) := ⟨_, rfl⟩
  rw [her.out]
  go_wp2_with fail
  by_cases h0 : er = 0
  · have h0' : appErrF st rs n2 la size nb = 0 := her.out.trans h0
    subst h0
    refine (zdoUnless_do _ _ w4 _ (fun _ => by kernel_rfl) ZPost.end_ (zAppend1_any _ _ _ _ _ _ _ st rs la size A2 Ab n2 c2 nb cb l b w4 Z4 (F2.under b4) (F1.under b4) (by omega) hsb (by omega) Z4.base_le)).mono ?_
    rintro e w6 ⟨rfl, A6, n6, c6, _, B6, O6, b6⟩
    obtain ⟨d0, d1, d2, d3, _⟩ := B6.four
    have B7 := R4.below b6 (by omega)
    obtain ⟨g0, g1, g2, g3, f0, f1, f2, f3⟩ := B7.four
    have b7 := b5.trans (b6.mono (by omega))
    go_wp2
    try simp only [Exit.inBlock, Exit.then]
    rw [show appSt st rs n2 la size nb = fullF ((n2 : Int) + nb) size by simp [appSt, h0'], show appDa st rs n2 la size nb l b = l ++ b by simp [appDa, h0'], h0']
    exact ret_zone2 rfl rfl rfl B7 O6 (by omega) (by omega) b7
  · have h0' : appErrF st rs n2 la size nb ≠ 0 := fun e => h0 (her.out.symm.trans e)
    refine (zdoUnless_no er (by simpa using h0) _ w4).mono ?_
    rintro e w6 ⟨rfl, rfl⟩
    obtain ⟨d0, d1, d2, d3, _⟩ := Z4.blk.four
    obtain ⟨g0, g1, g2, g3, f0, f1, f2, f3⟩ := R4.four
    go_wp2
    try simp only [Exit.inBlock, Exit.then]
    rw [show appSt st rs n2 la size nb = st by simp [appSt, h0'], show appDa st rs n2 la size nb l b = l by simp [appDa, h0'], her.out]
    exact ret_zone2 rfl rfl rfl R4 Z4.own (by omega) (by omega) b5

end Go.Proofs.YtnejiclghnigiaaDoor
namespace Go.Proofs.YtnejiclghnigiaaDoor
open Go.RowKit Go.Wag
set_option linter.unusedVariables false
set_option maxRecDepth 20000

/-- How many bytes a crash keeps; the zone behind it. -/
def crK (n la keep : Int) : Int := min (max keep la) n
def crSt (st rs n la size keep : Int) : Int := if chkF st rs n la size then (if crK n la keep = 0 then 0 else if st = 3 then 3 else 2) else st
def crDa (st rs n la size keep : Int) (l : List UInt8) : List UInt8 := if chkF st rs n la size then l.take (crK n la keep).toNat else l
def crLa (st rs n la size keep : Int) : Int := if chkF st rs n la size then crK n la keep else la

set_option maxHeartbeats 1600000 in
theorem zCrash_any (st rs la size keep : Int) (A : Option Addr) (n c : Nat) (l : List UInt8) (w : World) (h : Sl w A n c (l.map v8)) (hn : n ≤ 10000000000000) (hk0 : -9223372036854775808 ≤ keep) (hk1 : keep < 9223372036854775808) :
    Calls Tryd.prog 49 #[.agg #[.int .i64 st, .int .i64 rs, .slice A n c, .int .i64 la], .int .i64 size, .int .i64 keep] w (ZoneNew w (crSt st rs n la size keep) rs (crDa st rs n la size keep l) (crLa st rs n la size keep)) := by
  have b1 := ((Below.refl w.heap.size w).alloc (Nat.le_refl _) (.cells #[.int .i64 st, .int .i64 rs, .slice A n c, .int .i64 la] 56)).alloc (by simp) (.cells #[.int .i64 0, .int .i64 0, .slice none 0 0, .int .i64 0] 56)
  have B0 := (Blk.new w #[.int .i64 st, .int .i64 rs, .slice A n c, .int .i64 la] 56).alloc (.cells #[.int .i64 0, .int .i64 0, .slice none 0 0, .int .i64 0] 56)
  have B1 := (Blk.new (w.alloc (.cells #[.int .i64 st, .int .i64 rs, .slice A n c, .int .i64 la] 56)) #[.int .i64 0, .int .i64 0, .slice none 0 0, .int .i64 0] 56)
  rw [World.size_alloc] at B1
  cases hc : chkF st rs n la size
  · go_enter Tryd.func49, Tryd.ntmps49
    go_wp2_with fail
    generalize hW1 : (w.alloc (.cells #[.int .i64 st, .int .i64 rs, .slice A n c, .int .i64 la] 56)).alloc (.cells #[.int .i64 0, .int .i64 0, .slice none 0 0, .int .i64 0] 56) = W1 at *
    have hs1 : W1.heap.size = w.heap.size + 2 := by rw [← hW1]; simp
    refine (zCheck_any st rs la size A n c W1).mono ?_
    rintro e w2 ⟨rfl, b2⟩
    simp only [hc]
    have C0 := B0.under b2
    have C1 := B1.under b2
    obtain ⟨c0, c1, c2', c3, _⟩ := C0.four
    have b3 := b1.trans (b2.mono (by omega))
    have hs2 := b2.size
    go_wp2_with fail
    refine (zcopied_any st rs la A n c l w2 (h.below b3) hn).mono ?_
    rintro e w3 ⟨A3, n3, c3', rfl, N3, b4⟩
    have D1 := C1.under b4
    obtain ⟨g0, g1, g2, g3, f0, f1, f2, f3⟩ := D1.four
    go_wp2
    try simp only [Exit.inBlock, Exit.then]
    rw [show crSt st rs n la size keep = st by simp [crSt, hc], show crDa st rs n la size keep l = l by simp [crDa, hc], show crLa st rs n la size keep = la by simp [crLa, hc]]
    exact ret_zone rfl rfl D1 N3 (by omega) (by omega) (b3.trans (b4.mono (by omega)))
  · have hb := chk_all hc
    obtain ⟨m, hm⟩ : ∃ m : Int, (if keep < la then la else keep) = m := ⟨_, rfl⟩
    obtain ⟨k, hk⟩ : ∃ k : Nat, min m (n : Int) = k := ⟨(min m n).toNat, by
      rw [Int.toNat_of_nonneg]
      have : la ≤ m := by rw [← hm]; split <;> omega
      omega⟩
    have hkk : crK n la keep = (k : Int) := by
      unfold crK
      rw [← hk, ← hm]
      congr 1
      split <;> omega
    have hm1 : (if m ≤ (n : Int) then m else (n : Int)) = k := by rw [← hk]; split <;> omega
    have hm2 : (if (n : Int) < m then (n : Int) else m) = k := by rw [← hk]; split <;> omega
    have hkn : k ≤ n := by omega
    have hkc : k ≤ c := by have := h.cap; omega
    go_enter Tryd.func49, Tryd.ntmps49
    go_wp2_with fail
    generalize hW1 : (w.alloc (.cells #[.int .i64 st, .int .i64 rs, .slice A n c, .int .i64 la] 56)).alloc (.cells #[.int .i64 0, .int .i64 0, .slice none 0 0, .int .i64 0] 56) = W1 at *
    have hs1 : W1.heap.size = w.heap.size + 2 := by rw [← hW1]; simp
    refine (zCheck_any st rs la size A n c W1).mono ?_
    rintro e w2 ⟨rfl, b2⟩
    simp only [hc]
    have C0 := B0.under b2
    have C1 := B1.under b2
    obtain ⟨c0, c1, c2', c3, _⟩ := C0.four
    have b3 := b1.trans (b2.mono (by omega))
    have hs2 := b2.size
    go_wp2_with fail
    -- THE REGION
    refine wp_region_held_drew (S := fun w' => Below w2.heap.size w2 w') (by kernel_rfl) (Below.refl _ _).drew (fun hHeld => ?_)
    replace C0 := C0.drew
    replace C1 := C1.drew
    replace b3 := b3.drew
    have hs3 : W1.heap.size ≤ w2.drew.heap.size := hs2
    have Q2 : Sl w2.drew A k c ((l.take k).map v8) := by rw [List.map_take]; exact (h.below b3).upto hkn
    clear hs2 c0 c1 c2' c3
    generalize w2.drew = w3 at *
    refine wpAnyH_stronger (S' := fun w' => Below w3.heap.size w3 w') (fun w' h => Below.trans hHeld (h.mono (Below.size hHeld))) _ _ _ _ ?_
    replace hHeld : Below w3.heap.size w3 w3 := Below.refl _ _
    try simp only [Act.put, List.setIfInBounds_toArray, List.set_cons_zero, List.set_cons_succ]
    refine wpAnyH_take (i := 0) (v := ?_) (by simp only [List.getElem?_toArray, List.getElem?_cons_zero]; rfl) (by kernel_rfl) (by kernel_rfl) (by kernel_rfl) (by intro _ _ _ h; exact h) (Or.inl ⟨by rfl, ?_⟩) hHeld ?_
    rotate_left 1
    · intro wq hSw
      try dsimp only at hSw
      go_simp
      try (with_reducible rfl)
    try simp only [Act.put, List.setIfInBounds_toArray, List.set_cons_zero, List.set_cons_succ]
    refine wpAnyH_take (i := 1) (v := ?_) (by simp only [List.getElem?_toArray, List.getElem?_cons_succ, List.getElem?_cons_zero]; rfl) (by kernel_rfl) (by kernel_rfl) (by kernel_rfl) (by intro _ _ _ h; exact h) (Or.inl ⟨by rfl, ?_⟩) hHeld ?_
    rotate_left 1
    · intro wq hSw
      try dsimp only at hSw
      obtain ⟨c0, c1, c2', c3, _⟩ := (C0.under hSw).four
      go_simp
      try (with_reducible rfl)
    try simp only [Act.put, List.setIfInBounds_toArray, List.set_cons_zero, List.set_cons_succ]
    refine wpAnyH_take (i := 2) (v := ?_) (by simp only [List.getElem?_toArray, List.getElem?_cons_succ, List.getElem?_cons_zero]; rfl) (by kernel_rfl) (by kernel_rfl) (by kernel_rfl) (by intro _ _ _ h; exact h) (Or.inl ⟨by rfl, ?_⟩) hHeld ?_
    rotate_left 1
    · intro wq hSw
      try dsimp only at hSw
      go_simp
      try (with_reducible rfl)
    try simp only [Act.put, List.setIfInBounds_toArray, List.set_cons_zero, List.set_cons_succ]
    refine wpAnyH_take (i := 3) (v := ?_) (by simp only [List.getElem?_toArray, List.getElem?_cons_succ, List.getElem?_cons_zero]; rfl) (by kernel_rfl) (by kernel_rfl) (by kernel_rfl) (by intro _ _ _ h; exact h) (Or.inl ⟨by rfl, ?_⟩) hHeld ?_
    rotate_left 1
    · intro wq hSw
      try dsimp only at hSw
      obtain ⟨c0, c1, c2', c3, _⟩ := (C0.under hSw).four
      go_simp
      try (with_reducible rfl)
    try simp only [Act.put, List.setIfInBounds_toArray, List.set_cons_zero, List.set_cons_succ]
    refine wpAnyH_take (i := 4) (v := ?_) (by simp only [List.getElem?_toArray, List.getElem?_cons_succ, List.getElem?_cons_zero]; rfl) (by kernel_rfl) (by kernel_rfl) (by kernel_rfl) (by intro _ _ _ h; exact h) (Or.inl ⟨by rfl, ?_⟩) hHeld ?_
    rotate_left 1
    · intro wq hSw
      try dsimp only at hSw
      go_simp
      try (with_reducible rfl)
    try simp only [Act.put, List.setIfInBounds_toArray, List.set_cons_zero, List.set_cons_succ]
    refine wpAnyH_take (i := 5) (v := ?_) (by simp only [List.getElem?_toArray, List.getElem?_cons_succ, List.getElem?_cons_zero]; rfl) (by kernel_rfl) (by kernel_rfl) (by kernel_rfl) (by intro _ _ _ h; exact h) (Or.inl ⟨by rfl, ?_⟩) hHeld ?_
    rotate_left 1
    · intro wq hSw
      try dsimp only at hSw
      obtain ⟨c0, c1, c2', c3, _⟩ := (C0.under hSw).four
      go_simp
      try (with_reducible rfl)
    try simp only [Act.put, List.setIfInBounds_toArray, List.set_cons_zero, List.set_cons_succ]
    refine wpAnyH_take (i := 6) (v := ?_) (by simp only [List.getElem?_toArray, List.getElem?_cons_succ, List.getElem?_cons_zero]; rfl) (by kernel_rfl) (by kernel_rfl) (by kernel_rfl) (by intro _ _ _ h; exact h) (Or.inl ⟨by rfl, ?_⟩) hHeld ?_
    rotate_left 1
    · intro wq hSw
      try dsimp only at hSw
      go_simp
      try (with_reducible rfl)
    try simp only [Act.put, List.setIfInBounds_toArray, List.set_cons_zero, List.set_cons_succ]
    refine wpAnyH_take (i := 7) (v := ?_) (by simp only [List.getElem?_toArray, List.getElem?_cons_succ, List.getElem?_cons_zero]; rfl) (by kernel_rfl) (by kernel_rfl) (by kernel_rfl) (by intro _ _ _ h; exact h) (Or.inl ⟨by rfl, ?_⟩) hHeld ?_
    rotate_left 1
    · intro wq hSw
      try dsimp only at hSw
      go_simp
      try (with_reducible rfl)
    try simp only [Act.put, List.setIfInBounds_toArray, List.set_cons_zero, List.set_cons_succ]
    refine wpAnyH_take (i := 8) (v := ?_) (by simp only [List.getElem?_toArray, List.getElem?_cons_succ, List.getElem?_cons_zero]; rfl) (by kernel_rfl) (by kernel_rfl) (by kernel_rfl) (by intro _ _ _ h; exact h) (Or.inl ⟨by rfl, ?_⟩) hHeld ?_
    rotate_left 1
    · intro wq hSw
      try dsimp only at hSw
      go_simp
      try (with_reducible rfl)
    try simp only [Act.put, List.setIfInBounds_toArray, List.set_cons_zero, List.set_cons_succ]
    refine wpAnyH_take (i := 9) (v := ?_) (by simp only [List.getElem?_toArray, List.getElem?_cons_succ, List.getElem?_cons_zero]; rfl) (by kernel_rfl) (by kernel_rfl) (by kernel_rfl) (by intro _ _ _ h; exact h) (Or.inl ⟨by rfl, ?_⟩) hHeld ?_
    rotate_left 1
    · intro wq hSw
      try dsimp only at hSw
      go_simp
      try (with_reducible rfl)
    try simp only [Act.put, List.setIfInBounds_toArray, List.set_cons_zero, List.set_cons_succ]
    refine wpAnyH_ready (rs := [10, 11]) (by kernel_rfl) (by simp) ?_
    refine AllReadyH.cons (by simp only [List.getElem?_toArray, List.getElem?_cons_succ, List.getElem?_cons_zero]; rfl) (fun K hK => ?_) (AllReadyH.cons (by simp only [List.getElem?_toArray, List.getElem?_cons_succ, List.getElem?_cons_zero]; rfl) (fun K hK => ?_) AllReadyH.nil)
    · go_simp
      refine (zcopied_any st rs k A k c (l.take k) w3 Q2 (by omega)).mono ?_
      rintro e w5 ⟨A5, n5, c5, rfl, N5, b5⟩
      go_wp2_with fail
      refine hK.out _ _ b5 (fun hHeld => ?_)
      clear hK K
      try simp only [Act.put, List.setIfInBounds_toArray, List.set_cons_zero, List.set_cons_succ]
      refine wpAnyH_ready (rs := [11]) (by kernel_rfl) (by simp) ?_
      refine AllReadyH.cons (by simp only [List.getElem?_toArray, List.getElem?_cons_succ, List.getElem?_cons_zero]; rfl) (fun K hK => ?_) AllReadyH.nil
      go_simp
      refine hK.out _ _ (b5.alloc b5.size _) (fun hHeld => ?_)
      clear hK K
      try simp only [Act.put, List.setIfInBounds_toArray, List.set_cons_zero, List.set_cons_succ]
      refine wpAnyH_ready (rs := [12]) (by kernel_rfl) (by simp) ?_
      refine AllReadyH.cons (by simp only [List.getElem?_toArray, List.getElem?_cons_succ, List.getElem?_cons_zero]; rfl) (fun K hK => ?_) AllReadyH.nil
      go_simp
      refine hK.out _ _ (b5.alloc b5.size _) (fun hHeld => ?_)
      clear hK K hHeld
      try simp only [Act.put, List.setIfInBounds_toArray, List.set_cons_zero, List.set_cons_succ]
      refine wpAnyH_done (by kernel_rfl) ?_ _
      have hs5 := b5.size
      have V := Blk.new w5 #[.int .i64 st, .int .i64 rs, .slice A5 n5 c5, .int .i64 (k : Int)] 56
      have G0 := (C0.under b5).alloc (.cells #[.int .i64 st, .int .i64 rs, .slice A5 n5 c5, .int .i64 (k : Int)] 56)
      have G1 := (C1.under b5).alloc (.cells #[.int .i64 st, .int .i64 rs, .slice A5 n5 c5, .int .i64 (k : Int)] 56)
      have O := World.ownsRow.alloc N5 (.cells #[.int .i64 st, .int .i64 rs, .slice A5 n5 c5, .int .i64 (k : Int)] 56)
      have hA : ∀ ad, A5 = some ad → ad.block ≠ w5.heap.size := fun ad hA e => by
        subst hA
        have := (World.ownsRow.lt N5 ad.block rfl).2
        omega
      have b6 := (b3.trans (b5.mono (by omega))).alloc (by omega) (.cells #[.int .i64 st, .int .i64 rs, .slice A5 n5 c5, .int .i64 (k : Int)] 56)
      obtain ⟨kv, hkv⟩ : ∃ kv, w5.heap.size = kv := ⟨_, rfl⟩
      have hkv2 : w.heap.size + 2 ≤ kv := by omega
      rw [hkv] at V hA
      simp only [hkv]
      clear hkv b5 N5
      generalize w5.alloc (.cells #[.int .i64 st, .int .i64 rs, .slice A5 n5 c5, .int .i64 (k : Int)] 56) = w6 at *
      obtain ⟨g0, g1, g2, g3, f0, f1, f2, f3⟩ := G1.four
      obtain ⟨p0, p1, p2, p3, _⟩ := G0.four
      obtain ⟨v0, v1, v2, v3, y0, y1, y2, y3⟩ := V.four
      have hD : crDa st rs n la size keep l = l.take k := by simp [crDa, hc, hkk]
      have hL : crLa st rs n la size keep = (k : Int) := by simp [crLa, hc, hkk]
      have hne1 : ¬ w.heap.size + 1 = kv := by omega
      have hne2 : ¬ kv = w.heap.size + 1 := by omega
      have hne3 : ¬ w.heap.size = kv := by omega
      by_cases hk0 : (k : Int) = 0
      · have hS : Hid (crSt st rs n la size keep = 0) := by show crSt st rs n la size keep = 0; simp [crSt, hc, hkk, show k = 0 by omega]
        go_wp2
        try simp only [Exit.inBlock, Exit.then]
        rw [hS.out, hD, hL, hk0]
        exact ret_zone rfl rfl (G1.far (by simp; omega) _) (own_far O hA _) (by omega) (by omega) (b6.setCell (by simp; omega) _)
      · by_cases hs3' : st = 3
        · have hS : Hid (crSt st rs n la size keep = 3) := by show crSt st rs n la size keep = 3; simp [crSt, hkk, hs3', show ¬ k = 0 by omega]
          go_wp2
          try simp only [Exit.inBlock, Exit.then]
          rw [hS.out, hD, hL]
          exact ret_zone rfl rfl G1 O (by omega) (by omega) b6
        · have hS : Hid (crSt st rs n la size keep = 2) := by show crSt st rs n la size keep = 2; simp [crSt, hc, hkk, hs3', show ¬ k = 0 by omega]
          go_wp2
          try simp only [Exit.inBlock, Exit.then]
          rw [hS.out, hD, hL]
          exact ret_zone rfl rfl (G1.far (by simp; omega) _) (own_far O hA _) (by omega) (by omega) (b6.setCell (by simp; omega) _)
    · go_simp
      refine hK.out _ _ (hHeld.alloc (Nat.le_refl _) _) (fun hHeld => ?_)
      clear hK K
      try simp only [Act.put, List.setIfInBounds_toArray, List.set_cons_zero, List.set_cons_succ]
      refine wpAnyH_ready (rs := [10]) (by kernel_rfl) (by simp) ?_
      refine AllReadyH.cons (by simp only [List.getElem?_toArray, List.getElem?_cons_succ, List.getElem?_cons_zero]; rfl) (fun K hK => ?_) AllReadyH.nil
      go_simp
      have L0 := (C0.alloc (.cells #[.int .i64 0, .int .i64 0, .slice none 0 0, .int .i64 0] 56))
      have L1 := (C1.alloc (.cells #[.int .i64 0, .int .i64 0, .slice none 0 0, .int .i64 0] 56))
      have LV := Blk.new w3 #[.int .i64 0, .int .i64 0, .slice none 0 0, .int .i64 0] 56
      have LQ := Q2.alloc (.cells #[.int .i64 0, .int .i64 0, .slice none 0 0, .int .i64 0] 56)
      have Lb := b3.alloc (by omega) (.cells #[.int .i64 0, .int .i64 0, .slice none 0 0, .int .i64 0] 56)
      have Ls : w3.heap.size + 1 = (w3.alloc (.cells #[.int .i64 0, .int .i64 0, .slice none 0 0, .int .i64 0] 56)).heap.size := by simp
      generalize (w3.alloc (.cells #[.int .i64 0, .int .i64 0, .slice none 0 0, .int .i64 0] 56)) = w4 at *
      refine (zcopied_any st rs k A k c (l.take k) w4 LQ (by omega)).mono ?_
      rintro e w5 ⟨A5, n5, c5, rfl, N5, b5⟩
      go_wp2_with fail
      refine hK.out _ _ (hHeld.trans (b5.mono (by omega))) (fun hHeld => ?_)
      clear hK K
      obtain ⟨z0, z1, z2, z3, i0, i1, i2, i3⟩ := (LV.under b5).four
      try simp only [Act.put, List.setIfInBounds_toArray, List.set_cons_zero, List.set_cons_succ]
      refine wpAnyH_ready (rs := [12]) (by kernel_rfl) (by simp) ?_
      refine AllReadyH.cons (by simp only [List.getElem?_toArray, List.getElem?_cons_succ, List.getElem?_cons_zero]; rfl) (fun K hK => ?_) AllReadyH.nil
      go_simp
      refine hK.out _ _ ((((hHeld.setCell (Nat.le_refl _) _).setCell (Nat.le_refl _) _).setCell (Nat.le_refl _) _).setCell (Nat.le_refl _) _) (fun hHeld => ?_)
      clear hK K hHeld
      try simp only [Act.put, List.setIfInBounds_toArray, List.set_cons_zero, List.set_cons_succ]
      refine wpAnyH_done (by kernel_rfl) ?_ _
      have hs5 := b5.size
      have hA : ∀ ad, A5 = some ad → ad.block ≠ w3.heap.size := fun ad hA e => by
        subst hA
        have := (World.ownsRow.lt N5 ad.block rfl).1
        omega
      have V := ((((LV.under b5).set 0 (.int .i64 st)).set 1 (.int .i64 rs)).set 2 (.slice A5 n5 c5)).set 3 (.int .i64 (k : Int))
      simp only [List.setIfInBounds_toArray, List.set_cons_zero, List.set_cons_succ] at V
      have G0 := ((((L0.under b5).far (a := ⟨w3.heap.size, 0, none⟩) (by simp; omega) (.int .i64 st)).far (a := ⟨w3.heap.size, 1, none⟩) (by simp; omega) (.int .i64 rs)).far (a := ⟨w3.heap.size, 2, none⟩) (by simp; omega) (.slice A5 n5 c5)).far (a := ⟨w3.heap.size, 3, none⟩) (by simp; omega) (.int .i64 (k : Int))
      have G1 := ((((L1.under b5).far (a := ⟨w3.heap.size, 0, none⟩) (by simp; omega) (.int .i64 st)).far (a := ⟨w3.heap.size, 1, none⟩) (by simp; omega) (.int .i64 rs)).far (a := ⟨w3.heap.size, 2, none⟩) (by simp; omega) (.slice A5 n5 c5)).far (a := ⟨w3.heap.size, 3, none⟩) (by simp; omega) (.int .i64 (k : Int))
      have O := own_far (own_far (own_far (own_far N5 (a := ⟨w3.heap.size, 0, none⟩) hA (.int .i64 st)) (a := ⟨w3.heap.size, 1, none⟩) hA (.int .i64 rs)) (a := ⟨w3.heap.size, 2, none⟩) hA (.slice A5 n5 c5)) (a := ⟨w3.heap.size, 3, none⟩) hA (.int .i64 (k : Int))
      have b6 := ((((Lb.trans (b5.mono (by omega))).setCell (p := ⟨w3.heap.size, 0, none⟩) (by simp; omega) (.int .i64 st)).setCell (p := ⟨w3.heap.size, 1, none⟩) (by simp; omega) (.int .i64 rs)).setCell (p := ⟨w3.heap.size, 2, none⟩) (by simp; omega) (.slice A5 n5 c5)).setCell (p := ⟨w3.heap.size, 3, none⟩) (by simp; omega) (.int .i64 (k : Int))
      obtain ⟨kv, hkv⟩ : ∃ kv, w3.heap.size = kv := ⟨_, rfl⟩
      have hkv2 : w.heap.size + 2 ≤ kv := by omega
      rw [hkv] at V G0 G1 O hA b6
      have hs4 : w.heap.size + 2 ≤ w4.heap.size := by omega
      simp only [hkv]
      clear hkv b5 N5
      generalize (((w5.setCell ⟨kv, 0, none⟩ (.int .i64 st)).setCell ⟨kv, 1, none⟩ (.int .i64 rs)).setCell ⟨kv, 2, none⟩ (.slice A5 n5 c5)).setCell ⟨kv, 3, none⟩ (.int .i64 (k : Int)) = w6 at *
      obtain ⟨g0, g1, g2, g3, f0, f1, f2, f3⟩ := G1.four
      obtain ⟨p0, p1, p2, p3, _⟩ := G0.four
      obtain ⟨v0, v1, v2, v3, y0, y1, y2, y3⟩ := V.four
      have hD : crDa st rs n la size keep l = l.take k := by simp [crDa, hc, hkk]
      have hL : crLa st rs n la size keep = (k : Int) := by simp [crLa, hc, hkk]
      have hne1 : ¬ w.heap.size + 1 = kv := by omega
      have hne2 : ¬ kv = w.heap.size + 1 := by omega
      have hne3 : ¬ w.heap.size = kv := by omega
      by_cases hk0 : (k : Int) = 0
      · have hS : Hid (crSt st rs n la size keep = 0) := by show crSt st rs n la size keep = 0; simp [crSt, hc, hkk, show k = 0 by omega]
        go_wp2
        try simp only [Exit.inBlock, Exit.then]
        rw [hS.out, hD, hL, hk0]
        exact ret_zone rfl rfl (G1.far (by simp; omega) _) (own_far O hA _) (by omega) (by omega) (b6.setCell (by simp; omega) _)
      · by_cases hs3' : st = 3
        · have hS : Hid (crSt st rs n la size keep = 3) := by show crSt st rs n la size keep = 3; simp [crSt, hkk, hs3', show ¬ k = 0 by omega]
          go_wp2
          try simp only [Exit.inBlock, Exit.then]
          rw [hS.out, hD, hL]
          exact ret_zone rfl rfl G1 O (by omega) (by omega) b6
        · have hS : Hid (crSt st rs n la size keep = 2) := by show crSt st rs n la size keep = 2; simp [crSt, hc, hkk, hs3', show ¬ k = 0 by omega]
          go_wp2
          try simp only [Exit.inBlock, Exit.then]
          rw [hS.out, hD, hL]
          exact ret_zone rfl rfl (G1.far (by simp; omega) _) (own_far O hA _) (by omega) (by omega) (b6.setCell (by simp; omega) _)
end Go.Proofs.YtnejiclghnigiaaDoor
namespace Go.Proofs.YtnejiclghnigiaaDoor
open Go.RowKit Go.Wag
set_option linter.unusedVariables false
set_option maxRecDepth 20000

def mayF (n size : Int) : Bool := decide (1 ≤ n ∧ n ≤ 64 ∧ 1 ≤ size ∧ size ≤ 1048576)

theorem dmayHave_any (n size : Int) (w : World) : Calls Tryd.prog 31 #[.int .i64 n, .int .i64 size] w fun e w' => e = .returned (.bool (mayF n size)) ∧ w = w' := by
  go_enter Tryd.func31, Tryd.ntmps31
  go_wp2
  all_goals
    go_ret
    go_tidy
    refine ⟨congrArg (fun b => Ending.returned (.bool b)) (?_ : (_ : Bool) = _), rfl⟩
    rw [Bool.eq_iff_iff]
    simp only [mayF, decide_eq_true_eq, Bool.false_eq_true, false_iff]
    omega

theorem dcopiedBytes_any (A : Option Addr) (n c : Nat) (l : List UInt8) (w : World) (h : Sl w A n c (l.map v8)) (hn : n ≤ 10000000000000) :
    Calls Tryd.prog 40 #[.slice A n c] w fun e w' => ∃ A' c', e = .returned (.slice A' n c') ∧ Nw 5 w w' A' n c' (l.map v8) ∧ Below w.heap.size w w' := by
  have hlen := h.len
  have hcap := h.cap
  have hbig := h.big
  obtain ⟨i0, hi, hz0, hz1, hz2⟩ := info_parts i5
  have hmk := fun W => run_mk (P := Tryd.prog) 24 5 i0 (.int .u8 0) 1 Tryd.underlying24 hi hz0 hz1 hz2 rfl .i64 .i64 (n : Int) (n : Int) n n rfl rfl (by omega) (by omega) (by omega) W
  go_enter Tryd.func40, Tryd.ntmps40
  have HO := Own.made w (.int .u8 0) 5 n n (by omega) (by omega)
  have hs := h.alloc (.cells (mk0 (.int .u8 0) n) 5)
  go_wp2_with (with_reducible refine wpList_cpy rfl (.tmp 7) (.tmp 8) 24 24 rfl rfl HO Tryd.underlying24 sz5 _ _ _ _ rfl hs (oneCell8 l) ?_
               intro w2 hw2)
  go_ret
  have e1 : (l.map v8).take n ++ (List.replicate n (Value.int .u8 0)).drop n = l.map v8 := cpy_full _ n _ (by simpa using hlen)
  rw [e1] at hw2
  exact ⟨_, _, rfl, hw2.own, hw2.below_made⟩

/-- Whether a device may be. -/
def zchk (size : Int) (z : Zp) : Bool := chkF z.st z.rs z.l.length z.la size
def devF (size : Int) (zs : List Zp) : Bool := mayF zs.length size && zs.all (zchk size)

set_option maxHeartbeats 1000000 in
theorem dCheck_any {F : Nat → Prop} (size lf dn : Int) (dw : Bool) (A : Option Addr) (n c : Nat) (zs : List Zp) (w : World) (h : Zs F w A n c zs) :
    Calls Tryd.prog 22 #[.agg #[.int .i64 size, .slice A n c, .int .i64 lf, .bool dw, .int .i64 dn]] w fun e w' => e = .returned (.bool (devF size zs)) ∧ Below w.heap.size w w' := by
  have hlen := h.len
  subst hlen
  have hbig := h.big
  have hcap := h.cap
  go_enter Tryd.func22, Tryd.ntmps22
  go_wp2_with fail
  have B0 := Blk.new w #[.int .i64 size, .slice A zs.length c, .int .i64 lf, .bool dw, .int .i64 dn] 36
  have b0 := (Below.refl w.heap.size w).alloc (Nat.le_refl _) (.cells #[.int .i64 size, .slice A zs.length c, .int .i64 lf, .bool dw, .int .i64 dn] 36)
  generalize w.alloc (.cells #[.int .i64 size, .slice A zs.length c, .int .i64 lf, .bool dw, .int .i64 dn] 36) = w0 at *
  refine (dmayHave_any _ _ _).mono ?_
  rintro e w1 ⟨rfl, rfl⟩
  cases hm : mayF zs.length size with
  | false =>
    go_wp2
    go_ret
    exact ⟨by simp [devF, hm], b0⟩
  | true =>
    obtain ⟨p0, p1, p2, p3, p4, _⟩ := B0.five
    go_wp2_with fail
    clear p0 p1 p2 p3 p4
    go_loopg [15] zs.length (fun g i wr => ∃ k : Nat, k + g = zs.length ∧ i = .int .i64 (k : Int) ∧ Aside ((zs.take k).all (zchk size) = true) ∧ Below w0.heap.size w0 wr)
    case atStart => exact ⟨0, by omega, rfl, rfl, Below.refl _ _⟩
    case round =>
      obtain ⟨k, hk, rfl, hall, bb⟩ := hrel
      have B1 := B0.under bb
      obtain ⟨p0, p1, p2, p3, p4, _⟩ := B1.five
      by_cases hlt : (k : Int) < (zs.length : Int)
      · obtain ⟨g, rfl⟩ : ∃ g, gk = g + 1 := ⟨gk - 1, by omega⟩
        obtain ⟨gb, o, z, Ai, ci, rfl, hF, hg, hz, c0', c1', c2', c3', hS, hA⟩ := h.at_ (show k < zs.length by omega)
        have hbw := b0.trans (bb.mono b0.size)
        have c0 := (hbw.cell hg).trans c0'
        have c1 := (hbw.cell hg).trans c1'
        have c2 := (hbw.cell hg).trans c2'
        have c3 := (hbw.cell hg).trans c3'
        have hbl := B1.lt
        go_wp2_with fail
        have bv := hbw.alloc hbw.size (.cells #[.int .i64 z.st, .int .i64 z.rs, .slice Ai z.l.length ci, .int .i64 z.la] 56)
        have bb' := bb.alloc bb.size (.cells #[.int .i64 z.st, .int .i64 z.rs, .slice Ai z.l.length ci, .int .i64 z.la] 56)
        generalize wr.alloc (.cells #[.int .i64 z.st, .int .i64 z.rs, .slice Ai z.l.length ci, .int .i64 z.la] 56) = wv at *
        refine (zCheck_any z.st z.rs z.la size Ai z.l.length ci wv).mono ?_
        rintro e w2 ⟨rfl, b2⟩
        cases hc : chkF z.st z.rs z.l.length z.la size with
        | false =>
          go_wp2
          go_ret
          refine ⟨?_, bv.trans (b2.mono bv.size)⟩
          have : zs.all (zchk size) = false := by
            rw [List.all_eq_false]
            exact ⟨z, List.mem_of_getElem? hz, by simp [zchk, hc]⟩
          simp [devF, hm, this]
        | true =>
          go_wp2
          go_roundg g
          case measure => omega
          case rel =>
            refine ⟨k + 1, by omega, by first | rfl | (simp; done) | (simp; exact wrap64_small (by omega) (by omega)), ?_, bb'.trans (b2.mono bb'.size)⟩
            show _ = true
            have hk1 : zs.take (k + 1) = zs.take k ++ [z] := by
              rw [List.take_add_one, hz]; rfl
            rw [hk1, List.all_append, hall.out]
            simp [zchk, hc]
      · have hkk : k = zs.length := by omega
        go_wp2
        go_ret
        refine ⟨?_, b0.trans (bb.mono b0.size)⟩
        have hall := hall.out
        rw [hkk, List.take_length] at hall
        simp [devF, hm, hall]

/-- How many zones are open. -/
def openF (zs : List Zp) : Nat := zs.countP (fun z => z.st == 1)

set_option maxHeartbeats 1000000 in
theorem dOpen_any {F : Nat → Prop} (size lf dn : Int) (dw : Bool) (A : Option Addr) (n c : Nat) (zs : List Zp) (w : World) (h : Zs F w A n c zs) :
    Calls Tryd.prog 54 #[.agg #[.int .i64 size, .slice A n c, .int .i64 lf, .bool dw, .int .i64 dn]] w fun e w' => e = .returned (.int .i64 (openF zs : Int)) ∧ Below w.heap.size w w' := by
  have hlen := h.len
  subst hlen
  have hbig := h.big
  have hcap := h.cap
  go_enter Tryd.func54, Tryd.ntmps54
  go_wp2_with fail
  have B0 := Blk.new w #[.int .i64 size, .slice A zs.length c, .int .i64 lf, .bool dw, .int .i64 dn] 36
  have b0 := (Below.refl w.heap.size w).alloc (Nat.le_refl _) (.cells #[.int .i64 size, .slice A zs.length c, .int .i64 lf, .bool dw, .int .i64 dn] 36)
  generalize w.alloc (.cells #[.int .i64 size, .slice A zs.length c, .int .i64 lf, .bool dw, .int .i64 dn] 36) = w0 at *
  go_loopg [3, 9] zs.length (fun g s i wr => ∃ k m : Nat, k + g = zs.length ∧ m ≤ k ∧ s = .int .i64 (m : Int) ∧ i = .int .i64 (k : Int) ∧ Aside (openF (zs.take k) = m) ∧ Below w0.heap.size w0 wr)
  case atStart => exact ⟨0, 0, by omega, Nat.le_refl _, rfl, rfl, rfl, Below.refl _ _⟩
  case round =>
    obtain ⟨k, m, hk, hmk, rfl, rfl, hall, bb⟩ := hrel
    by_cases hlt : (k : Int) < (zs.length : Int)
    · obtain ⟨g, rfl⟩ : ∃ g, gk = g + 1 := ⟨gk - 1, by omega⟩
      obtain ⟨gb, o, z, Ai, ci, rfl, hF, hg, hz, c0', c1', c2', c3', hS, hA⟩ := h.at_ (show k < zs.length by omega)
      have hbw := b0.trans (bb.mono b0.size)
      have c0 := (hbw.cell hg).trans c0'
      have c1 := (hbw.cell hg).trans c1'
      have c2 := (hbw.cell hg).trans c2'
      have c3 := (hbw.cell hg).trans c3'
      have bb' := bb.alloc bb.size (.cells #[.int .i64 z.st, .int .i64 z.rs, .slice Ai z.l.length ci, .int .i64 z.la] 56)
      have hk1 : Aside (zs.take (k + 1) = zs.take k ++ [z]) := by
        show zs.take (k + 1) = zs.take k ++ [z]
        rw [List.take_add_one, hz]; rfl
      clear c0' c1' c2' c3' hz
      by_cases hst : z.st = 1
      · go_wp2
        go_roundg g
        case measure => omega
        case rel =>
          refine ⟨k + 1, m + 1, by omega, by omega, by first | rfl | (simp; done), by first | rfl | (simp; done), ?_, bb.alloc bb.size _⟩
          show openF _ = _
          rw [hk1.out, openF, List.countP_append, ← openF, hall.out]
          simp [hst]
      · go_wp2
        go_roundg g
        case measure => omega
        case rel =>
          refine ⟨k + 1, m, by omega, by omega, by first | rfl | (simp; done), by first | rfl | (simp; done), ?_, bb.alloc bb.size _⟩
          show openF _ = _
          rw [hk1.out, openF, List.countP_append, ← openF, hall.out]
          simp [hst]
    · have hkk : k = zs.length := by omega
      go_wp2
      go_ret
      refine ⟨?_, b0.trans (bb.mono b0.size)⟩
      have hall := hall.out
      rw [hkk, List.take_length] at hall
      rw [hall]
      rfl
end Go.Proofs.YtnejiclghnigiaaDoor
namespace Go.Proofs.YtnejiclghnigiaaDoor
open Go.RowKit Go.Wag
set_option linter.unusedVariables false
set_option maxRecDepth 20000

/-- The answer is a device in memory of its own. -/
def DevNew (w : World) (size lf dn : Int) (dw : Bool) (zs : List Zp) (e : Ending) (w' : World) : Prop :=
  ∃ g, e = .returned (.agg #[.int .i64 size, .slice (some ⟨g, 0, none⟩) zs.length zs.length, .int .i64 lf, .bool dw, .int .i64 dn]) ∧ Zo w.heap.size 56 w' g zs ∧ Below w.heap.size w w'

/-- The same, with an error beside it. -/
def DevErr (w : World) (size lf dn : Int) (dw : Bool) (zs : List Zp) (er : Int) (e : Ending) (w' : World) : Prop :=
  ∃ g, e = .returned (.tuple #[.agg #[.int .i64 size, .slice (some ⟨g, 0, none⟩) zs.length zs.length, .int .i64 lf, .bool dw, .int .i64 dn], .int .i64 er]) ∧ Zo w.heap.size 56 w' g zs ∧ Below w.heap.size w w'

theorem dev_stored {B kr g n : Nat} {w w6 : World} {a b c d e : Value} {zs : List Zp} (size lf dn : Int) (dw : Bool) (hB : Blk w6 kr #[a, b, c, d, e] 36) (hZ : Zo B 56 w6 g zs) (hk : kr < B) (hw : w.heap.size ≤ kr) (hb : Below w.heap.size w w6) :
    Blk (((((w6.setCell ⟨kr, 0, none⟩ (.int .i64 size)).setCell ⟨kr, 1, none⟩ (.slice (some ⟨g, 0, none⟩) n n)).setCell ⟨kr, 2, none⟩ (.int .i64 lf)).setCell ⟨kr, 3, none⟩ (.bool dw)).setCell ⟨kr, 4, none⟩ (.int .i64 dn)) kr #[.int .i64 size, .slice (some ⟨g, 0, none⟩) n n, .int .i64 lf, .bool dw, .int .i64 dn] 36 ∧ Zo w.heap.size 56 (((((w6.setCell ⟨kr, 0, none⟩ (.int .i64 size)).setCell ⟨kr, 1, none⟩ (.slice (some ⟨g, 0, none⟩) n n)).setCell ⟨kr, 2, none⟩ (.int .i64 lf)).setCell ⟨kr, 3, none⟩ (.bool dw)).setCell ⟨kr, 4, none⟩ (.int .i64 dn)) g zs ∧ Below w.heap.size w (((((w6.setCell ⟨kr, 0, none⟩ (.int .i64 size)).setCell ⟨kr, 1, none⟩ (.slice (some ⟨g, 0, none⟩) n n)).setCell ⟨kr, 2, none⟩ (.int .i64 lf)).setCell ⟨kr, 3, none⟩ (.bool dw)).setCell ⟨kr, 4, none⟩ (.int .i64 dn)) :=
  ⟨((((hB.set 0 _).set 1 _).set 2 _).set 3 _).set 4 _, Zo.mono (B := B) (Zo.far (a := ⟨kr, 4, none⟩) (Zo.far (a := ⟨kr, 3, none⟩) (Zo.far (a := ⟨kr, 2, none⟩) (Zo.far (a := ⟨kr, 1, none⟩) (Zo.far (a := ⟨kr, 0, none⟩) hZ hk _) hk _) hk _) hk _) hk _) (by omega), ((((hb.setCell hw _).setCell hw _).setCell hw _).setCell hw _).setCell hw _⟩
theorem ret_dev {fn : Func} {tmps : Array Value} {p : Tmp} {B kr g n : Nat} {w w6 : World} {a b c d e : Value} {zs : List Zp} {size lf dn : Int} {dw : Bool} (hr : fn.results = #[.cell p 36]) (hp : tmps.getD p undef = .pointer (some ⟨kr, 0, none⟩))
    (hB : Blk w6 kr #[a, b, c, d, e] 36) (hZ : Zo B 56 w6 g zs) (hn : n = zs.length) (hk : kr < B) (hw : w.heap.size ≤ kr) (hb : Below w.heap.size w w6) :
    bodyPost Tryd.prog fn (DevNew w size lf dn dw zs) .ret ⟨tmps, []⟩ (((((w6.setCell ⟨kr, 0, none⟩ (.int .i64 size)).setCell ⟨kr, 1, none⟩ (.slice (some ⟨g, 0, none⟩) n n)).setCell ⟨kr, 2, none⟩ (.int .i64 lf)).setCell ⟨kr, 3, none⟩ (.bool dw)).setCell ⟨kr, 4, none⟩ (.int .i64 dn)) := by
  obtain ⟨h1, h2, h3⟩ := dev_stored (n := n) size lf dn dw hB hZ hk hw hb
  exact ret_blk hr hp h1 Tryd.underlying36 (by kernel_rfl) ⟨g, by rw [hn], h2, h3⟩
theorem ret_dev2 {fn : Func} {tmps : Array Value} {p u : Tmp} {B kr g n : Nat} {w w6 : World} {a b c d e : Value} {zs : List Zp} {size lf dn er : Int} {dw : Bool} (hr : fn.results = #[.cell p 36, .tmp u]) (hp : tmps.getD p undef = .pointer (some ⟨kr, 0, none⟩))
    (hv : tmps.getD u undef = .int .i64 er) (hB : Blk w6 kr #[a, b, c, d, e] 36) (hZ : Zo B 56 w6 g zs) (hn : n = zs.length) (hk : kr < B) (hw : w.heap.size ≤ kr) (hb : Below w.heap.size w w6) :
    bodyPost Tryd.prog fn (DevErr w size lf dn dw zs er) .ret ⟨tmps, []⟩ (((((w6.setCell ⟨kr, 0, none⟩ (.int .i64 size)).setCell ⟨kr, 1, none⟩ (.slice (some ⟨g, 0, none⟩) n n)).setCell ⟨kr, 2, none⟩ (.int .i64 lf)).setCell ⟨kr, 3, none⟩ (.bool dw)).setCell ⟨kr, 4, none⟩ (.int .i64 dn)) := by
  obtain ⟨h1, h2, h3⟩ := dev_stored (n := n) size lf dn dw hB hZ hk hw hb
  exact ret_blk2 hr hp h1 Tryd.underlying36 (by kernel_rfl) hv ⟨g, by rw [hn], h2, h3⟩

theorem i46 : (Tryd.prog.info? 56).map (fun i => (i.zero, i.size, i.bytes)) = some (some (.agg #[.int .i64 0, .int .i64 0, .slice none 0 0, .int .i64 0]), 4, 48) := by kernel_rfl
theorem run_mkz (n : Nat) (hn : n ≤ 100) (w : World) :
    (Instr.makeSlice 34 (.int .i64 (n : Int)) (.int .i64 (n : Int))).run Tryd.prog w = .ok (.slice (some ⟨w.heap.size, 0, none⟩) n n) (w.alloc (.cells (madeCells #[.int .i64 0, .int .i64 0, .slice none 0 0, .int .i64 0] (n * 4)) 56)) := by
  obtain ⟨i0, hi, hz0, hz1, hz2⟩ := info_parts i46
  have hr := run_make (P := Tryd.prog) w 34 56 i0 _ Tryd.underlying34 hi hz0 .i64 .i64 (n : Int) (n : Int) (by omega) (by omega) (by rw [hz2]; omega) (by omega)
  simp only [Int.toNat_natCast, hz1] at hr
  exact hr

set_option maxHeartbeats 1000000 in
theorem deach_any {F : Nat → Prop} (f : FuncId) (cap : Array Value) (G : Nat → Zp → Zp) (size lf dn : Int) (dw : Bool) (A : Option Addr) (n c : Nat) (zs : List Zp) (w : World) (h : Zs F w A n c zs) (hsm : Sm zs)
    (hent : ∀ v u w, (callFunc f (#[v, u] ++ cap)).run Tryd.prog w = .ok (.enter f (#[v, u] ++ cap)) w)
    (hf : ∀ i z Ai ci w', zs[i]? = some z → Below w.heap.size w w' → Sl w' Ai z.l.length ci (z.l.map v8) → Calls Tryd.prog f (#[.int .i64 (i : Int), .agg #[.int .i64 z.st, .int .i64 z.rs, .slice Ai z.l.length ci, .int .i64 z.la]] ++ cap) w' (ZoneNew w' (G i z).st (G i z).rs (G i z).l (G i z).la)) :
    Calls Tryd.prog 47 #[.agg #[.int .i64 size, .slice A n c, .int .i64 lf, .bool dw, .int .i64 dn], .func (.func f) #[] cap] w (DevNew w size lf dn dw (zs.mapIdx G)) := by
  have hlen := h.len
  subst hlen
  have hbig := h.big
  have hcap := h.cap
  have hn := hsm.1
  have hmk := run_mkz zs.length hn
  go_enter Tryd.func47, Tryd.ntmps47
  have B0 := (Blk.new w #[.int .i64 size, .slice A zs.length c, .int .i64 lf, .bool dw, .int .i64 dn] 36).alloc (.cells #[.int .i64 0, .slice none 0 0, .int .i64 0, .bool false, .int .i64 0] 36)
  have B1 := Blk.new (w.alloc (.cells #[.int .i64 size, .slice A zs.length c, .int .i64 lf, .bool dw, .int .i64 dn] 36)) #[.int .i64 0, .slice none 0 0, .int .i64 0, .bool false, .int .i64 0] 36
  have b0 := ((Below.refl w.heap.size w).alloc (Nat.le_refl _) (.cells #[.int .i64 size, .slice A zs.length c, .int .i64 lf, .bool dw, .int .i64 dn] 36)).alloc (by simp) (.cells #[.int .i64 0, .slice none 0 0, .int .i64 0, .bool false, .int .i64 0] 36)
  have hs0 : ((w.alloc (.cells #[.int .i64 size, .slice A zs.length c, .int .i64 lf, .bool dw, .int .i64 dn] 36)).alloc (.cells #[.int .i64 0, .slice none 0 0, .int .i64 0, .bool false, .int .i64 0] 36)).heap.size = w.heap.size + 2 := by simp
  simp only [World.size_alloc] at B1
  go_wp2_with fail
  have HZ := Zo.made ((w.alloc (.cells #[.int .i64 size, .slice A zs.length c, .int .i64 lf, .bool dw, .int .i64 dn] 36)).alloc (.cells #[.int .i64 0, .slice none 0 0, .int .i64 0, .bool false, .int .i64 0] 36)) zs.length 56
  have bz := (Below.refl _ ((w.alloc (.cells #[.int .i64 size, .slice A zs.length c, .int .i64 lf, .bool dw, .int .i64 dn] 36)).alloc (.cells #[.int .i64 0, .slice none 0 0, .int .i64 0, .bool false, .int .i64 0] 36))).alloc (Nat.le_refl _) (.cells (madeCells #[.int .i64 0, .int .i64 0, .slice none 0 0, .int .i64 0] (zs.length * 4)) 56)
  rw [hs0] at HZ bz
  clear hmk
  generalize ((w.alloc (.cells #[.int .i64 size, .slice A zs.length c, .int .i64 lf, .bool dw, .int .i64 dn] 36)).alloc (.cells #[.int .i64 0, .slice none 0 0, .int .i64 0, .bool false, .int .i64 0] 36)) = w0 at *
  go_loopg [15] zs.length (fun g i wr => ∃ k : Nat, k + g = zs.length ∧ i = .int .i64 (k : Int) ∧ ∃ L : List Zp, Aside (L.length = zs.length ∧ ∀ i, i < k → L[i]? = (zs.mapIdx G)[i]?) ∧ Zo (w.heap.size + 2) 56 wr (w.heap.size + 2) L ∧ Below (w.heap.size + 2) w0 wr)
  case atStart => exact ⟨0, by omega, rfl, _, ⟨List.length_replicate, fun i hi => absurd hi (by omega)⟩, HZ, bz⟩
  case round =>
    clear HZ bz
    obtain ⟨k, hk, rfl, L, hL, HZ, bb⟩ := hrel
    obtain ⟨hL1, hL2⟩ := hL.out
    have hbw := b0.trans (bb.mono (by omega))
    by_cases hlt : (k : Int) < (zs.length : Int)
    · obtain ⟨g, rfl⟩ : ∃ g, gk = g + 1 := ⟨gk - 1, by omega⟩
      obtain ⟨gb, o, z, Ai, ci, rfl, hF, hg, hz, c0', c1', c2', c3', hS, hA⟩ := h.at_ (show k < zs.length by omega)
      have c0 := (hbw.cell hg).trans c0'
      have c1 := (hbw.cell hg).trans c1'
      have c2 := (hbw.cell hg).trans c2'
      have c3 := (hbw.cell hg).trans c3'
      clear c0' c1' c2' c3'
      replace hL1 : Aside (L.length = zs.length) := hL1
      have hss := bb.size
      go_wp2_with fail
      have hSv := (hS.below hbw).alloc (.cells #[.int .i64 z.st, .int .i64 z.rs, .slice Ai z.l.length ci, .int .i64 z.la] 56)
      have bv := hbw.alloc hbw.size (.cells #[.int .i64 z.st, .int .i64 z.rs, .slice Ai z.l.length ci, .int .i64 z.la] 56)
      have bb' := bb.alloc (by omega) (.cells #[.int .i64 z.st, .int .i64 z.rs, .slice Ai z.l.length ci, .int .i64 z.la] 56)
      have HZ1 := HZ.alloc (.cells #[.int .i64 z.st, .int .i64 z.rs, .slice Ai z.l.length ci, .int .i64 z.la] 56)
      generalize wr.alloc (.cells #[.int .i64 z.st, .int .i64 z.rs, .slice Ai z.l.length ci, .int .i64 z.la] 56) = wv at *
      have hC := hf k z Ai ci wv hz bv hSv
      refine hC.mono ?_
      clear hC
      rintro e w2 ⟨A2, n2, c2, rfl, N2, b2⟩
      obtain rfl : (G k z).l.length = n2 := N2.sl.len8
      have HZ2 := HZ1.under b2
      have hkL : k < L.length := by rw [hL1.out]; omega
      obtain ⟨⟨q0, q1, q2, q3, d0, d1, d2, d3⟩, f0, f1, f2, f3⟩ := HZ2.cells hkL
      have bb2 := bb'.trans (b2.mono (by have := bb'.size; omega))
      have HZ3 := HZ2.set hkL (G k z) N2.sl (fun _ ad e => by
        have h1 := N2.fr ad e
        have h2 := HZ1.lt
        omega)
      go_wp2
      go_roundg g
      case measure => omega
      case rel =>
        refine ⟨k + 1, by omega, by first | rfl | (simp; done) | (simp; exact wrap64_small (by omega) (by omega)), _, ⟨by rw [List.length_set]; exact hL1.out, fun i hi => ?_⟩, HZ3, (((bb2.setCell (Nat.le_refl _) _).setCell (Nat.le_refl _) _).setCell (Nat.le_refl _) _).setCell (Nat.le_refl _) _⟩
        rw [List.getElem?_set]
        by_cases hki : k = i
        · subst hki
          rw [if_pos rfl, if_pos hkL, List.getElem?_mapIdx, hz]
          rfl
        · rw [if_neg hki]
          exact hL2 i (by omega)
    · have hkk : k = zs.length := by omega
      have hLG : L = zs.mapIdx G := by
        apply List.ext_getElem?
        intro i
        by_cases hi : i < k
        · exact hL2 i hi
        · rw [List.getElem?_eq_none (by omega), List.getElem?_eq_none (by rw [List.length_mapIdx]; omega)]
      rw [hLG] at HZ
      replace hL1 : Hid (zs.length = (zs.mapIdx G).length) := (List.length_mapIdx).symm
      clear hLG hL2 hL
      have B0' := B0.below bb (by omega)
      have B1' := B1.below bb (by omega)
      obtain ⟨p0, p1, p2, p3, p4, f0, f1, f2, f3, f4⟩ := B0'.five
      obtain ⟨r0, r1, r2, r3, r4, g0, g1, g2, g3, g4⟩ := B1'.five
      go_wp2
      try simp only [Exit.inBlock, Exit.then]
      exact ret_dev rfl rfl (B1'.far (by simp) _) (HZ.far (by simp) _) hL1.out (by omega) (by omega) (hbw.setCell (Nat.le_refl _) _)

theorem dcopied1_any (i : Int) (z : Zp) (Ai : Option Addr) (ci : Nat) (w : World) (h : Sl w Ai z.l.length ci (z.l.map v8)) (hn : z.l.length ≤ 10000000000000) :
    Calls Tryd.prog 64 #[.int .i64 i, .agg #[.int .i64 z.st, .int .i64 z.rs, .slice Ai z.l.length ci, .int .i64 z.la]] w (ZoneNew w z.st z.rs z.l z.la) := by
  have B0 := (Blk.new w #[.int .i64 z.st, .int .i64 z.rs, .slice Ai z.l.length ci, .int .i64 z.la] 56).alloc (.cells #[.int .i64 0, .int .i64 0, .slice none 0 0, .int .i64 0] 56)
  have B1 := Blk.new (w.alloc (.cells #[.int .i64 z.st, .int .i64 z.rs, .slice Ai z.l.length ci, .int .i64 z.la] 56)) #[.int .i64 0, .int .i64 0, .slice none 0 0, .int .i64 0] 56
  have b0 := ((Below.refl w.heap.size w).alloc (Nat.le_refl _) (.cells #[.int .i64 z.st, .int .i64 z.rs, .slice Ai z.l.length ci, .int .i64 z.la] 56)).alloc (by simp) (.cells #[.int .i64 0, .int .i64 0, .slice none 0 0, .int .i64 0] 56)
  have hs0 : ((w.alloc (.cells #[.int .i64 z.st, .int .i64 z.rs, .slice Ai z.l.length ci, .int .i64 z.la] 56)).alloc (.cells #[.int .i64 0, .int .i64 0, .slice none 0 0, .int .i64 0] 56)).heap.size = w.heap.size + 2 := by simp
  simp only [World.size_alloc] at B1
  replace h := h.below b0
  go_enter Tryd.func64, Tryd.ntmps64
  go_wp2_with fail
  generalize ((w.alloc (.cells #[.int .i64 z.st, .int .i64 z.rs, .slice Ai z.l.length ci, .int .i64 z.la] 56)).alloc (.cells #[.int .i64 0, .int .i64 0, .slice none 0 0, .int .i64 0] 56)) = w0 at *
  refine (dcopiedBytes_any Ai z.l.length ci z.l w0 h hn).mono ?_
  rintro e w1 ⟨A1, c1, rfl, N1, b1⟩
  have B0' := B0.under b1
  have B1' := B1.under b1
  obtain ⟨p0, p1, p2, p3, f0, f1, f2, f3⟩ := B0'.four
  obtain ⟨r0, r1, r2, r3, g0, g1, g2, g3⟩ := B1'.four
  go_wp2
  try simp only [Exit.inBlock, Exit.then]
  exact ret_zone rfl rfl (B1'.far (by simp) _) (own_far N1 (a := ⟨w.heap.size, 2, none⟩) (nw_ne N1 (by simp; omega)) _) (by omega) (by omega) ((b0.trans (b1.mono (by omega))).setCell (Nat.le_refl _) _)

theorem mapIdx_same (zs : List Zp) : zs.mapIdx (fun _ z => z) = zs := by
  apply List.ext_getElem?
  intro i
  rw [List.getElem?_mapIdx]
  simp

theorem dcopied_any {F : Nat → Prop} (size lf dn : Int) (dw : Bool) (A : Option Addr) (n c : Nat) (zs : List Zp) (w : World) (h : Zs F w A n c zs) (hsm : Sm zs) :
    Calls Tryd.prog 44 #[.agg #[.int .i64 size, .slice A n c, .int .i64 lf, .bool dw, .int .i64 dn]] w (DevNew w size lf dn dw zs) := by
  have B1 := Blk.new (w.alloc (.cells #[.int .i64 size, .slice A n c, .int .i64 lf, .bool dw, .int .i64 dn] 36)) #[.int .i64 0, .slice none 0 0, .int .i64 0, .bool false, .int .i64 0] 36
  have b0 := ((Below.refl w.heap.size w).alloc (Nat.le_refl _) (.cells #[.int .i64 size, .slice A n c, .int .i64 lf, .bool dw, .int .i64 dn] 36)).alloc (by simp) (.cells #[.int .i64 0, .slice none 0 0, .int .i64 0, .bool false, .int .i64 0] 36)
  have hs0 : ((w.alloc (.cells #[.int .i64 size, .slice A n c, .int .i64 lf, .bool dw, .int .i64 dn] 36)).alloc (.cells #[.int .i64 0, .slice none 0 0, .int .i64 0, .bool false, .int .i64 0] 36)).heap.size = w.heap.size + 2 := by simp
  simp only [World.size_alloc] at B1
  replace h := h.below b0
  go_enter Tryd.func44, Tryd.ntmps44
  go_wp2_with fail
  generalize ((w.alloc (.cells #[.int .i64 size, .slice A n c, .int .i64 lf, .bool dw, .int .i64 dn] 36)).alloc (.cells #[.int .i64 0, .slice none 0 0, .int .i64 0, .bool false, .int .i64 0] 36)) = w0 at *
  refine (deach_any 64 #[] (fun _ z => z) size lf dn dw A n c zs w0 h hsm (fun _ _ _ => by kernel_rfl) (fun i z Ai ci w' hz _ hS => dcopied1_any i z Ai ci w' hS (by have := hsm.at_ hz; omega))).mono ?_
  rw [mapIdx_same]
  rintro e w1 ⟨g, rfl, Z1, b1⟩
  have B1' := B1.under b1
  obtain ⟨r0, r1, r2, r3, r4, g0, g1, g2, g3, g4⟩ := B1'.five
  go_wp2
  try simp only [Exit.inBlock, Exit.then]
  exact ret_dev rfl rfl B1' Z1 rfl (by omega) (by omega) (b0.trans (b1.mono (by omega)))

theorem dLimit_any {F : Nat → Prop} (size lf dn left : Int) (dw : Bool) (A : Option Addr) (n c : Nat) (zs : List Zp) (w : World) (h : Zs F w A n c zs) (hsm : Sm zs) :
    Calls Tryd.prog 32 #[.agg #[.int .i64 size, .slice A n c, .int .i64 lf, .bool dw, .int .i64 dn], .int .i64 left] w (DevNew w size left dn dw zs) := by
  have B1 := Blk.new (w.alloc (.cells #[.int .i64 size, .slice A n c, .int .i64 lf, .bool dw, .int .i64 dn] 36)) #[.int .i64 0, .slice none 0 0, .int .i64 0, .bool false, .int .i64 0] 36
  have b0 := ((Below.refl w.heap.size w).alloc (Nat.le_refl _) (.cells #[.int .i64 size, .slice A n c, .int .i64 lf, .bool dw, .int .i64 dn] 36)).alloc (by simp) (.cells #[.int .i64 0, .slice none 0 0, .int .i64 0, .bool false, .int .i64 0] 36)
  have hs0 : ((w.alloc (.cells #[.int .i64 size, .slice A n c, .int .i64 lf, .bool dw, .int .i64 dn] 36)).alloc (.cells #[.int .i64 0, .slice none 0 0, .int .i64 0, .bool false, .int .i64 0] 36)).heap.size = w.heap.size + 2 := by simp
  simp only [World.size_alloc] at B1
  replace h := h.below b0
  go_enter Tryd.func32, Tryd.ntmps32
  go_wp2_with fail
  generalize ((w.alloc (.cells #[.int .i64 size, .slice A n c, .int .i64 lf, .bool dw, .int .i64 dn] 36)).alloc (.cells #[.int .i64 0, .slice none 0 0, .int .i64 0, .bool false, .int .i64 0] 36)) = w0 at *
  refine (dcopied_any size lf dn dw A n c zs w0 h hsm).mono ?_
  rintro e w1 ⟨g, rfl, Z1, b1⟩
  have B1' := B1.under b1
  have b2 := b0.trans (b1.mono (by omega))
  have hlt := B1'.lt
  obtain ⟨r0, r1, r2, r3, r4, g0, g1, g2, g3, g4⟩ := B1'.five
  go_wp2
  try simp only [Exit.inBlock, Exit.then]
  obtain ⟨h1, h2, h3⟩ := dev_stored (n := zs.length) size left dn dw B1' Z1 (by omega) (by omega) b2
  exact ret_blk rfl rfl (h1.alloc _) Tryd.underlying36 (by kernel_rfl) ⟨g, rfl, h2.alloc _, h3.alloc h3.size _⟩
end Go.Proofs.YtnejiclghnigiaaDoor
namespace Go.Proofs.YtnejiclghnigiaaDoor
open Go.RowKit Go.Wag
set_option linter.unusedVariables false
set_option maxRecDepth 20000

/-- What New answers. -/
def NewPost (w : World) (n size : Int) (e : Ending) (w' : World) : Prop :=
  (mayF n size = true ∧ DevErr w size (-1) 0 false (List.replicate n.toNat zero4) 0 e w') ∨ (mayF n size = false ∧ e = .returned (.tuple #[.agg #[.int .i64 0, .slice none 0 0, .int .i64 0, .bool false, .int .i64 0], .int .i64 1]) ∧ Below w.heap.size w w')

theorem dNew_any (n size : Int) (w : World) : Calls Tryd.prog 14 #[.int .i64 n, .int .i64 size] w (NewPost w n size) := by
  have B0 := Blk.new w #[.int .i64 0, .slice none 0 0, .int .i64 0, .bool false, .int .i64 0] 36
  have b0 := (Below.refl w.heap.size w).alloc (Nat.le_refl _) (.cells #[.int .i64 0, .slice none 0 0, .int .i64 0, .bool false, .int .i64 0] 36)
  have hs0 : (w.alloc (.cells #[.int .i64 0, .slice none 0 0, .int .i64 0, .bool false, .int .i64 0] 36)).heap.size = w.heap.size + 1 := by simp
  cases hm : mayF n size with
  | false =>
    go_enter Tryd.func14, Tryd.ntmps14
    go_wp2_with fail
    generalize w.alloc (.cells #[.int .i64 0, .slice none 0 0, .int .i64 0, .bool false, .int .i64 0] 36) = w0 at *
    refine (dmayHave_any _ _ _).mono ?_
    rw [hm]
    rintro e w1 ⟨rfl, rfl⟩
    obtain ⟨r0, r1, r2, r3, r4, g0, g1, g2, g3, g4⟩ := B0.five
    go_wp2
    try simp only [Exit.inBlock, Exit.then]
    exact ret_blk2 rfl rfl (((((B0.set 0 _).set 1 _).set 2 _).set 3 _).set 4 _) Tryd.underlying36 (by kernel_rfl) rfl (.inr ⟨hm, rfl, ((((b0.setCell (Nat.le_refl _) _).setCell (Nat.le_refl _) _).setCell (Nat.le_refl _) _).setCell (Nat.le_refl _) _).setCell (Nat.le_refl _) _⟩)
  | true =>
    have hm2 : 1 ≤ n ∧ n ≤ 64 ∧ 1 ≤ size ∧ size ≤ 1048576 := by simpa only [mayF, decide_eq_true_eq] using hm
    obtain ⟨k, rfl⟩ : ∃ k : Nat, n = k := ⟨n.toNat, by omega⟩
    have hmk := run_mkz k (by omega)
    go_enter Tryd.func14, Tryd.ntmps14
    go_wp2_with fail
    generalize w.alloc (.cells #[.int .i64 0, .slice none 0 0, .int .i64 0, .bool false, .int .i64 0] 36) = w0 at *
    refine (dmayHave_any _ _ _).mono ?_
    rw [hm]
    rintro e w1 ⟨rfl, rfl⟩
    obtain ⟨r0, r1, r2, r3, r4, g0, g1, g2, g3, g4⟩ := B0.five
    go_wp2
    try simp only [Exit.inBlock, Exit.then]
    refine ret_blk2 rfl rfl ((((((B0.set 0 _).set 1 _).set 2 _).set 3 _).set 4 _).alloc _) Tryd.underlying36 (by kernel_rfl) rfl (Or.inl ⟨hm, w.heap.size + 1, by simp, ?_, ?_⟩)
    · exact Zo.made_at _ k 56 _ (by simpa [World.setCell] using hs0) _ (by omega)
    · exact (((((b0.setCell (Nat.le_refl _) _).setCell (Nat.le_refl _) _).setCell (Nat.le_refl _) _).setCell (Nat.le_refl _) _).setCell (Nat.le_refl _) _).alloc (by simp [World.setCell]; omega) _

/-- A row of integers. -/
def iv (x : Int) : Value := .int .i64 x
/-- A zone behind a crash. -/
def crZ (size keep : Int) (z : Zp) : Zp := ⟨crSt z.st z.rs z.l.length z.la size keep, z.rs, crLa z.st z.rs z.l.length z.la size keep, crDa z.st z.rs z.l.length z.la size keep z.l⟩
def keepAt (ks : List Int) (i : Nat) : Int := ks.getD i 0
def fits (ks : List Int) : Prop := ∀ x ∈ ks, -9223372036854775808 ≤ x ∧ x < 9223372036854775808

set_option maxHeartbeats 1000000 in
theorem dCrash1_any (i : Nat) (z : Zp) (Ai : Option Addr) (ci : Nat) (size lf dn : Int) (dw : Bool) (A : Option Addr) (n c : Nat) (Ak : Option Addr) (ck : Nat) (ks : List Int) (kd kk tk : Nat) (w : World) (h : Sl w Ai z.l.length ci (z.l.map v8)) (hn : z.l.length ≤ 1048576)
    (hd : Blk w kd #[.int .i64 size, .slice A n c, .int .i64 lf, .bool dw, .int .i64 dn] 36) (hk : Blk w kk #[.slice Ak ks.length ck] tk) (hs : Sl w Ak ks.length ck (ks.map iv)) (hf : fits ks) (hi : i ≤ 1000) :
    Calls Tryd.prog 48 #[.int .i64 (i : Int), .agg #[.int .i64 z.st, .int .i64 z.rs, .slice Ai z.l.length ci, .int .i64 z.la], .pointer (some ⟨kk, 0, none⟩), .pointer (some ⟨kd, 0, none⟩)] w (ZoneNew w (crZ size (keepAt ks i) z).st (crZ size (keepAt ks i) z).rs (crZ size (keepAt ks i) z).l (crZ size (keepAt ks i) z).la) := by
  have hAi : 0 < z.l.length → ∀ ad, Ai = some ad → ad.block ≠ w.heap.size + 1 := fun hn ad e => by
    obtain ⟨ad', e', hb, _⟩ := h.cells hn
    cases e.symm.trans e'
    omega
  have B0 := (Blk.new w #[.int .i64 z.st, .int .i64 z.rs, .slice Ai z.l.length ci, .int .i64 z.la] 56).alloc (.cells #[.int .i64 0, .int .i64 0, .slice none 0 0, .int .i64 0] 56)
  have B1 := Blk.new (w.alloc (.cells #[.int .i64 z.st, .int .i64 z.rs, .slice Ai z.l.length ci, .int .i64 z.la] 56)) #[.int .i64 0, .int .i64 0, .slice none 0 0, .int .i64 0] 56
  have b0 := ((Below.refl w.heap.size w).alloc (Nat.le_refl _) (.cells #[.int .i64 z.st, .int .i64 z.rs, .slice Ai z.l.length ci, .int .i64 z.la] 56)).alloc (by simp) (.cells #[.int .i64 0, .int .i64 0, .slice none 0 0, .int .i64 0] 56)
  have hs0 : ((w.alloc (.cells #[.int .i64 z.st, .int .i64 z.rs, .slice Ai z.l.length ci, .int .i64 z.la] 56)).alloc (.cells #[.int .i64 0, .int .i64 0, .slice none 0 0, .int .i64 0] 56)).heap.size = w.heap.size + 2 := by simp
  simp only [World.size_alloc] at B1
  replace h := h.below b0
  have hkl := hk.lt
  have hdl := hd.lt
  have hAk : 0 < ks.length → ∀ ad, Ak = some ad → ad.block < w.heap.size := fun hn ad e => by
    obtain ⟨ad', e', hb, _⟩ := hs.cells hn
    cases e.symm.trans e'
    exact hb
  replace hd := hd.under b0
  replace hk := hk.under b0
  replace hs := hs.below b0
  obtain ⟨d0, d1, d2, d3, d4, _⟩ := hd.five
  obtain ⟨k0, _⟩ := hk.one
  go_enter Tryd.func48, Tryd.ntmps48
  by_cases hlt : (i : Int) < (ks.length : Int)
  · obtain ⟨ad, u, rfl, hab, hu, hcu⟩ := hs.at_ (show i < ks.length by omega)
    have hkn : keepAt ks i = ks[i]'(by omega) := by simp [keepAt, List.getD_eq_getElem?_getD, List.getElem?_eq_getElem (show i < ks.length by omega)]
    have hux : u = .int .i64 (keepAt ks i) := by
      rw [hkn]
      rw [List.getElem?_map, List.getElem?_eq_getElem (show i < ks.length by omega)] at hu
      exact (Option.some.inj hu).symm
    have hfi : -9223372036854775808 ≤ keepAt ks i ∧ keepAt ks i < 9223372036854775808 := by rw [hkn]; exact hf _ (List.getElem_mem _)
    have hlk := hAk (by omega) ad rfl
    clear hu hkn hAk
    subst hux
    obtain ⟨keep, hkeep⟩ : ∃ x, x = keepAt ks i := ⟨_, rfl⟩
    rw [← hkeep] at hcu hfi ⊢
    clear hkeep
    go_wp2_with fail
    generalize ((w.alloc (.cells #[.int .i64 z.st, .int .i64 z.rs, .slice Ai z.l.length ci, .int .i64 z.la] 56)).alloc (.cells #[.int .i64 0, .int .i64 0, .slice none 0 0, .int .i64 0] 56)) = w0 at *
    clear d0 d1 d2 d3 d4 k0
    have hcap := hs.cap
    have hbig := hs.big
    refine wp_region_held_drew (S := fun w' => But (w.heap.size + 1) w0 w') (by kernel_rfl) (But.refl _ _).drew (fun hHeld => ?_)
    try dsimp only at hHeld
    have bd := (Below.refl w0.heap.size w0).drew
    generalize w0.drew = wd at *
    try simp only [Act.put, List.setIfInBounds_toArray, List.set_cons_zero, List.set_cons_succ]
    refine wpAnyH_take (i := 0) (v := ?_) (by simp only [List.getElem?_toArray, List.getElem?_cons_zero]; rfl) (by kernel_rfl) (by kernel_rfl) (by kernel_rfl) (by intro _ _ _ h; exact h) (Or.inl ⟨by rfl, ?_⟩) hHeld ?_
    rotate_left 1
    · intro wq hSw
      try dsimp only at hSw
      obtain ⟨x0, x1, x2, x3, _⟩ := (B0.but hSw (by omega)).four
      go_simp
      try (with_reducible rfl)
    try simp only [Act.put, List.setIfInBounds_toArray, List.set_cons_zero, List.set_cons_succ]
    refine wpAnyH_take (i := 1) (v := ?_) (by simp only [List.getElem?_toArray, List.getElem?_cons_succ, List.getElem?_cons_zero]; rfl) (by kernel_rfl) (by kernel_rfl) (by kernel_rfl) (by intro _ _ _ h; exact h) (Or.inl ⟨by rfl, ?_⟩) hHeld ?_
    rotate_left 1
    · intro wq hSw
      try dsimp only at hSw
      go_simp
      try (with_reducible rfl)
    try simp only [Act.put, List.setIfInBounds_toArray, List.set_cons_zero, List.set_cons_succ]
    refine wpAnyH_take (i := 2) (v := ?_) (by simp only [List.getElem?_toArray, List.getElem?_cons_succ, List.getElem?_cons_zero]; rfl) (by kernel_rfl) (by kernel_rfl) (by kernel_rfl) (by intro _ _ _ h; exact h) (Or.inl ⟨by rfl, ?_⟩) hHeld ?_
    rotate_left 1
    · intro wq hSw
      try dsimp only at hSw
      obtain ⟨x0, x1, x2, x3, x4, _⟩ := (hd.but hSw (by omega)).five
      go_simp
      try (with_reducible rfl)
    try simp only [Act.put, List.setIfInBounds_toArray, List.set_cons_zero, List.set_cons_succ]
    refine wpAnyH_take (i := 3) (v := ?_) (by simp only [List.getElem?_toArray, List.getElem?_cons_succ, List.getElem?_cons_zero]; rfl) (by kernel_rfl) (by kernel_rfl) (by kernel_rfl) (by intro _ _ _ h; exact h) (Or.inl ⟨by rfl, ?_⟩) hHeld ?_
    rotate_left 1
    · intro wq hSw
      try dsimp only at hSw
      obtain ⟨x0, _⟩ := (hk.but hSw (by omega)).one
      go_simp
      try (with_reducible rfl)
    try simp only [Act.put, List.setIfInBounds_toArray, List.set_cons_zero, List.set_cons_succ]
    refine wpAnyH_take (i := 4) (v := ?_) (by simp only [List.getElem?_toArray, List.getElem?_cons_succ, List.getElem?_cons_zero]; rfl) (by kernel_rfl) (by kernel_rfl) (by kernel_rfl) (by intro _ _ _ h; exact h) (Or.inl ⟨by rfl, ?_⟩) hHeld ?_
    rotate_left 1
    · intro wq hSw
      try dsimp only at hSw
      go_simp
      try (with_reducible rfl)
    try simp only [Act.put, List.setIfInBounds_toArray, List.set_cons_zero, List.set_cons_succ]
    refine wpAnyH_take (i := 5) (v := ?_) (by simp only [List.getElem?_toArray, List.getElem?_cons_succ, List.getElem?_cons_zero]; rfl) (by kernel_rfl) (by kernel_rfl) (by kernel_rfl) (by intro _ _ _ h; exact h) (Or.inl ⟨by rfl, ?_⟩) hHeld ?_
    rotate_left 1
    · intro wq hSw
      try dsimp only at hSw
      go_simp
      try (with_reducible rfl)
    try simp only [Act.put, List.setIfInBounds_toArray, List.set_cons_zero, List.set_cons_succ]
    refine wpAnyH_take (i := 6) (v := ?_) (by simp only [List.getElem?_toArray, List.getElem?_cons_succ, List.getElem?_cons_zero]; rfl) (by kernel_rfl) (by kernel_rfl) (by kernel_rfl) (by intro _ _ _ h; exact h) (Or.inl ⟨by rfl, ?_⟩) hHeld ?_
    rotate_left 1
    · intro wq hSw
      try dsimp only at hSw
      have x0 := (hSw.cell (by rw [add_block]; exact hab) (by rw [add_block]; omega)).trans hcu
      go_simp
      try (with_reducible rfl)
    try simp only [Act.put, List.setIfInBounds_toArray, List.set_cons_zero, List.set_cons_succ]
    refine wpAnyH_ready (rs := [7]) (by kernel_rfl) (by simp) ?_
    refine AllReadyH.cons (by simp only [List.getElem?_toArray, List.getElem?_cons_succ, List.getElem?_cons_zero]; rfl) (fun K hK => ?_) AllReadyH.nil
    have hC := zCrash_any z.st z.rs z.la size keep Ai z.l.length ci z.l wd (h.but hHeld hAi) (by omega) hfi.1 hfi.2
    go_simp
    refine hC.mono ?_
    clear hC
    rintro e w2 ⟨A2, n2, c2, rfl, N2, b2⟩
    go_wp2_with fail
    refine hK.out _ _ (hHeld.call b2) (fun hHeld => ?_)
    clear hK K
    try dsimp only at hHeld
    try simp only [Act.put, List.setIfInBounds_toArray, List.set_cons_zero, List.set_cons_succ]
    refine wpAnyH_ready (rs := [8]) (by kernel_rfl) (by simp) ?_
    refine AllReadyH.cons (by simp only [List.getElem?_toArray, List.getElem?_cons_succ, List.getElem?_cons_zero]; rfl) (fun K hK => ?_) AllReadyH.nil
    have bz : Below w.heap.size w w2 := (b0.trans (bd.mono (by omega))).trans (b2.mono (by have := bd.size; omega))
    have B2 := (B1.below bd (by omega)).under b2
    obtain ⟨r0, r1, r2, r3, g0, g1, g2, g3⟩ := B2.four
    go_simp
    refine hK.out _ _ ((((hHeld.set 0 _).set 1 _).set 2 _).set 3 _) (fun hHeld => ?_)
    clear hK K
    try dsimp only at hHeld
    try simp only [Act.put, List.setIfInBounds_toArray, List.set_cons_zero, List.set_cons_succ]
    refine wpAnyH_done (by kernel_rfl) ?_ _
    go_wp2
    try simp only [Exit.inBlock, Exit.then]
    exact ret_zone (l := (crZ size keep z).l) rfl rfl B2 N2 (by have := bd.size; omega) (by omega) bz
  · have hkn : keepAt ks i = 0 := by simp [keepAt, List.getD_eq_getElem?_getD, List.getElem?_eq_none (show ks.length ≤ i by omega)]
    rw [hkn]
    clear hkn hAk
    go_wp2_with fail
    generalize ((w.alloc (.cells #[.int .i64 z.st, .int .i64 z.rs, .slice Ai z.l.length ci, .int .i64 z.la] 56)).alloc (.cells #[.int .i64 0, .int .i64 0, .slice none 0 0, .int .i64 0] 56)) = w0 at *
    refine (zCrash_any z.st z.rs z.la size 0 Ai z.l.length ci z.l w0 h (by omega) (by omega) (by omega)).mono ?_
    rintro e w2 ⟨A2, n2, c2, rfl, N2, b2⟩
    have bz : Below w.heap.size w w2 := b0.trans (b2.mono (by omega))
    have B2 := B1.under b2
    obtain ⟨r0, r1, r2, r3, g0, g1, g2, g3⟩ := B2.four
    go_wp2
    try simp only [Exit.inBlock, Exit.then]
    exact ret_zone (l := (crZ size 0 z).l) rfl rfl B2 N2 (by omega) (by omega) bz
end Go.Proofs.YtnejiclghnigiaaDoor
namespace Go.Proofs.YtnejiclghnigiaaDoor
open Go.RowKit Go.Wag
set_option linter.unusedVariables false
set_option maxRecDepth 20000

def crZs (size : Int) (ks : List Int) (zs : List Zp) : List Zp := zs.mapIdx fun i z => crZ size (keepAt ks i) z
/-- A device behind a crash. -/
def cdLf (size lf : Int) (zs : List Zp) : Int := if devF size zs then -1 else lf
def cdDw (size : Int) (dw : Bool) (zs : List Zp) : Bool := if devF size zs then false else dw
def cdZs (size : Int) (ks : List Int) (zs : List Zp) : List Zp := if devF size zs then crZs size ks zs else zs

set_option maxHeartbeats 1000000 in
theorem dCrash_any {F : Nat → Prop} (size lf dn : Int) (dw : Bool) (A : Option Addr) (n c : Nat) (zs : List Zp) (Ak : Option Addr) (ck : Nat) (ks : List Int) (w : World) (h : Zs F w A n c zs) (hsm : Sm zs) (hs : Sl w Ak ks.length ck (ks.map iv)) (hf : fits ks) :
    Calls Tryd.prog 27 #[.agg #[.int .i64 size, .slice A n c, .int .i64 lf, .bool dw, .int .i64 dn], .slice Ak ks.length ck] w (DevNew w size (cdLf size lf zs) dn (cdDw size dw zs) (cdZs size ks zs)) := by
  have B0 := ((Blk.new w #[.int .i64 size, .slice A n c, .int .i64 lf, .bool dw, .int .i64 dn] 36).alloc (.cells #[.slice Ak ks.length ck] 63)).alloc (.cells #[.int .i64 0, .slice none 0 0, .int .i64 0, .bool false, .int .i64 0] 36)
  have B1 := (Blk.new (w.alloc (.cells #[.int .i64 size, .slice A n c, .int .i64 lf, .bool dw, .int .i64 dn] 36)) #[.slice Ak ks.length ck] 63).alloc (.cells #[.int .i64 0, .slice none 0 0, .int .i64 0, .bool false, .int .i64 0] 36)
  have B2 := Blk.new ((w.alloc (.cells #[.int .i64 size, .slice A n c, .int .i64 lf, .bool dw, .int .i64 dn] 36)).alloc (.cells #[.slice Ak ks.length ck] 63)) #[.int .i64 0, .slice none 0 0, .int .i64 0, .bool false, .int .i64 0] 36
  have b0 := (((Below.refl w.heap.size w).alloc (Nat.le_refl _) (.cells #[.int .i64 size, .slice A n c, .int .i64 lf, .bool dw, .int .i64 dn] 36)).alloc (by simp) (.cells #[.slice Ak ks.length ck] 63)).alloc (by simp; omega) (.cells #[.int .i64 0, .slice none 0 0, .int .i64 0, .bool false, .int .i64 0] 36)
  have hs0 : (((w.alloc (.cells #[.int .i64 size, .slice A n c, .int .i64 lf, .bool dw, .int .i64 dn] 36)).alloc (.cells #[.slice Ak ks.length ck] 63)).alloc (.cells #[.int .i64 0, .slice none 0 0, .int .i64 0, .bool false, .int .i64 0] 36)).heap.size = w.heap.size + 3 := by simp
  simp only [World.size_alloc] at B1 B2
  have hAk : 0 < ks.length → ∀ ad, Ak = some ad → ad.block < w.heap.size := fun hn ad e => by
    obtain ⟨ad', e', hb, _⟩ := hs.cells hn
    cases e.symm.trans e'
    exact hb
  have h1 := (h.imp (F' := fun b => b < w.heap.size) (fun b hb _ => hb)).below b0
  have hs1 := hs.below b0
  go_enter Tryd.func27, Tryd.ntmps27
  go_wp2_with fail
  generalize (((w.alloc (.cells #[.int .i64 size, .slice A n c, .int .i64 lf, .bool dw, .int .i64 dn] 36)).alloc (.cells #[.slice Ak ks.length ck] 63)).alloc (.cells #[.int .i64 0, .slice none 0 0, .int .i64 0, .bool false, .int .i64 0] 36)) = w0 at *
  refine (dCheck_any size lf dn dw A n c zs w0 h1).mono ?_
  rintro e w1 ⟨rfl, b1⟩
  replace h1 := h1.below b1
  replace hs1 := hs1.below b1
  replace B0 := B0.under b1
  replace B1 := B1.under b1
  replace B2 := B2.under b1
  have b2 := b0.trans (b1.mono (by omega))
  have hz1 := b1.size
  obtain ⟨p0, p1, p2, p3, p4, f0, f1, f2, f3, f4⟩ := B0.five
  cases hc : devF size zs with
  | false =>
    have e1 : Hid (cdLf size lf zs = lf) := by show cdLf size lf zs = lf; simp [cdLf, hc]
    have e2 : Hid (cdDw size dw zs = dw) := by show cdDw size dw zs = dw; simp [cdDw, hc]
    have e3 : Hid (cdZs size ks zs = zs) := by show cdZs size ks zs = zs; simp [cdZs, hc]
    go_wp2_with fail
    refine (dcopied_any size lf dn dw A n c zs w1 h1 hsm).mono ?_
    rintro e w2 ⟨g, rfl, Z2, b3⟩
    have B3 := B2.under b3
    obtain ⟨r0, r1, r2, r3, r4, g0, g1, g2, g3, g4⟩ := B3.five
    go_wp2
    try simp only [Exit.inBlock, Exit.then]
    rw [e1.out, e2.out, e3.out]
    exact ret_dev rfl rfl B3 Z2 rfl (by omega) (by omega) (b2.trans (b3.mono (by omega)))
  | true =>
    have e1 : Hid (cdLf size lf zs = -1) := by show cdLf size lf zs = -1; simp [cdLf, hc]
    have e2 : Hid (cdDw size dw zs = false) := by show cdDw size dw zs = false; simp [cdDw, hc]
    have e3 : Hid (cdZs size ks zs = crZs size ks zs) := by show cdZs size ks zs = crZs size ks zs; simp [cdZs, hc]
    go_wp2_with fail
    have b3 := (b2.setCell (p := ⟨w.heap.size, 3, none⟩) (Nat.le_refl _) (.bool false)).setCell (p := ⟨w.heap.size, 2, none⟩) (Nat.le_refl _) (.int .i64 (-1))
    have h3 := (h1.far (a := ⟨w.heap.size, 3, none⟩) (by simp) (.bool false)).far (a := ⟨w.heap.size, 2, none⟩) (by simp) (.int .i64 (-1))
    have B3 := (B0.set 3 (.bool false)).set 2 (.int .i64 (-1))
    simp only [List.setIfInBounds_toArray, List.set_cons_zero, List.set_cons_succ] at B3
    have B4 := (B1.far (a := ⟨w.heap.size, 3, none⟩) (by simp) (.bool false)).far (a := ⟨w.heap.size, 2, none⟩) (by simp) (.int .i64 (-1))
    have B5 := (B2.far (a := ⟨w.heap.size, 3, none⟩) (by simp; omega) (.bool false)).far (a := ⟨w.heap.size, 2, none⟩) (by simp; omega) (.int .i64 (-1))
    have hs3 := (hs1.farz (a := ⟨w.heap.size, 3, none⟩) (fun hn ad e => Nat.ne_of_lt (hAk hn ad e)) (.bool false)).farz (a := ⟨w.heap.size, 2, none⟩) (fun hn ad e => Nat.ne_of_lt (hAk hn ad e)) (.int .i64 (-1))
    have hz3 : w.heap.size + 3 ≤ ((w1.setCell ⟨w.heap.size, 3, none⟩ (.bool false)).setCell ⟨w.heap.size, 2, none⟩ (.int .i64 (-1))).heap.size := by simp [World.setCell]; omega
    clear h1 hs1 B0 B1 B2 b2 f0 f1 f2 f3 f4 p0 p1 p2 p3 p4
    generalize (w1.setCell ⟨w.heap.size, 3, none⟩ (.bool false)).setCell ⟨w.heap.size, 2, none⟩ (.int .i64 (-1)) = w3 at *
    refine (deach_any 48 #[.pointer (some ⟨w.heap.size + 1, 0, none⟩), .pointer (some ⟨w.heap.size, 0, none⟩)] (fun i z => crZ size (keepAt ks i) z) size (-1) dn false A n c zs w3 h3 hsm (fun _ _ _ => by kernel_rfl)
      (fun i z Ai ci w' hz b hS => dCrash1_any i z Ai ci size (-1) dn false A n c Ak ck ks w.heap.size (w.heap.size + 1) 63 w' hS (hsm.at_ hz) (B3.under b) (B4.under b) (hs3.below b) hf (by
        have h1 : i < zs.length := (List.getElem?_eq_some_iff.1 hz).1
        have h2 := hsm.1
        omega))).mono ?_
    rintro e w4 ⟨g, rfl, Z4, b4⟩
    have B6 := B5.under b4
    obtain ⟨r0, r1, r2, r3, r4, g0, g1, g2, g3, g4⟩ := B6.five
    go_wp2
    try simp only [Exit.inBlock, Exit.then]
    rw [e1.out, e2.out, e3.out]
    exact ret_dev rfl rfl B6 Z4 (by simp [crZs]) (by omega) (by omega) (b3.trans (b4.mono (by omega)))

def fsZ (z : Zp) : Zp := ⟨z.st, z.rs, z.l.length, z.l⟩
theorem dflush1_any (i : Int) (z : Zp) (Ai : Option Addr) (ci : Nat) (w : World) (h : Sl w Ai z.l.length ci (z.l.map v8)) (hn : z.l.length ≤ 10000000000000) :
    Calls Tryd.prog 88 #[.int .i64 i, .agg #[.int .i64 z.st, .int .i64 z.rs, .slice Ai z.l.length ci, .int .i64 z.la]] w (ZoneNew w (fsZ z).st (fsZ z).rs (fsZ z).l (fsZ z).la) := by
  have B1 := Blk.new (w.alloc (.cells #[.int .i64 z.st, .int .i64 z.rs, .slice Ai z.l.length ci, .int .i64 z.la] 56)) #[.int .i64 0, .int .i64 0, .slice none 0 0, .int .i64 0] 56
  have b0 := ((Below.refl w.heap.size w).alloc (Nat.le_refl _) (.cells #[.int .i64 z.st, .int .i64 z.rs, .slice Ai z.l.length ci, .int .i64 z.la] 56)).alloc (by simp) (.cells #[.int .i64 0, .int .i64 0, .slice none 0 0, .int .i64 0] 56)
  have hs0 : ((w.alloc (.cells #[.int .i64 z.st, .int .i64 z.rs, .slice Ai z.l.length ci, .int .i64 z.la] 56)).alloc (.cells #[.int .i64 0, .int .i64 0, .slice none 0 0, .int .i64 0] 56)).heap.size = w.heap.size + 2 := by simp
  simp only [World.size_alloc] at B1
  replace h := h.below b0
  go_enter Tryd.func88, Tryd.ntmps88
  go_wp2_with fail
  generalize ((w.alloc (.cells #[.int .i64 z.st, .int .i64 z.rs, .slice Ai z.l.length ci, .int .i64 z.la] 56)).alloc (.cells #[.int .i64 0, .int .i64 0, .slice none 0 0, .int .i64 0] 56)) = w0 at *
  refine (zFlush_any z.st z.rs z.la Ai z.l.length ci z.l w0 h hn).mono ?_
  rintro e w1 ⟨A1, n1, c1, rfl, N1, b1⟩
  have B1' := B1.under b1
  obtain ⟨r0, r1, r2, r3, g0, g1, g2, g3⟩ := B1'.four
  go_wp2
  try simp only [Exit.inBlock, Exit.then]
  exact ret_zone (l := (fsZ z).l) rfl rfl B1' N1 (by omega) (by omega) (b0.trans (b1.mono (by omega)))

/-- Bytes of a zone. -/
def rdOk (size : Int) (zs : List Zp) (zn at_ n : Int) : Bool := devF size zs && decide (0 ≤ zn ∧ zn < zs.length ∧ 0 ≤ at_ ∧ 0 ≤ n) && decide (n ≤ ((zs[zn.toNat]?).elim [] Zp.l).length - at_)
def rdF (size : Int) (zs : List Zp) (zn at_ n : Int) : List UInt8 := (((zs[zn.toNat]?).elim [] Zp.l).take (at_ + n).toNat).drop at_.toNat
/-- What Read answers. -/
def ReadPost (w : World) (size : Int) (zs : List Zp) (zn at_ n : Int) (e : Ending) (w' : World) : Prop :=
  (rdOk size zs zn at_ n = true ∧ ∃ A c, e = .returned (.tuple #[.slice A (rdF size zs zn at_ n).length c, .int .i64 0]) ∧ Nw 5 w w' A (rdF size zs zn at_ n).length c ((rdF size zs zn at_ n).map v8) ∧ Below w.heap.size w w') ∨
  (rdOk size zs zn at_ n = false ∧ e = .returned (.tuple #[.slice none 0 0, .int .i64 1]) ∧ Below w.heap.size w w')
theorem ReadPost.no {w w' : World} {size : Int} {zs : List Zp} {zn at_ n : Int} (h : rdOk size zs zn at_ n = false) (hb : Below w.heap.size w w') : ReadPost w size zs zn at_ n (.returned (.tuple #[.slice none 0 0, .int .i64 1])) w' := .inr ⟨h, rfl, hb⟩

set_option maxHeartbeats 1000000 in
theorem dRead_any {F : Nat → Prop} (size lf dn : Int) (dw : Bool) (A : Option Addr) (n c : Nat) (zs : List Zp) (zn at_ m : Int) (w : World) (h : Zs F w A n c zs) (hsm : Sm zs) (hx : at_ < 9223372036854775808) (hy : m < 9223372036854775808) :
    Calls Tryd.prog 19 #[.agg #[.int .i64 size, .slice A n c, .int .i64 lf, .bool dw, .int .i64 dn], .int .i64 zn, .int .i64 at_, .int .i64 m] w (ReadPost w size zs zn at_ m) := by
  have hlen := h.len
  subst hlen
  have hcap := h.cap
  have b0 := (Below.refl w.heap.size w).alloc (Nat.le_refl _) (.cells #[.int .i64 size, .slice A zs.length c, .int .i64 lf, .bool dw, .int .i64 dn] 36)
  have B0 := Blk.new w #[.int .i64 size, .slice A zs.length c, .int .i64 lf, .bool dw, .int .i64 dn] 36
  have h1 := h.below b0
  have hs0 : (w.alloc (.cells #[.int .i64 size, .slice A zs.length c, .int .i64 lf, .bool dw, .int .i64 dn] 36)).heap.size = w.heap.size + 1 := by simp
  go_enter Tryd.func19, Tryd.ntmps19
  go_wp2_with fail
  generalize w.alloc (.cells #[.int .i64 size, .slice A zs.length c, .int .i64 lf, .bool dw, .int .i64 dn] 36) = w0 at *
  refine (dCheck_any size lf dn dw A zs.length c zs w0 h1).mono ?_
  rintro e w1 ⟨rfl, b1⟩
  have b2 := b0.trans (b1.mono (by omega))
  replace h1 := h1.below b1
  replace B0 := B0.under b1
  obtain ⟨p0, p1, p2, p3, p4, _⟩ := B0.five
  cases hc : devF size zs with
  | false =>
    have hno : Hid (rdOk size zs zn at_ m = false) := by show rdOk size zs zn at_ m = false; simp [rdOk, hc]
    go_wp2
    go_ret2
    exact ReadPost.no hno.out b2
  | true =>
    by_cases hz0 : zn < 0
    · have hno : Hid (rdOk size zs zn at_ m = false) := by show rdOk size zs zn at_ m = false; simp [rdOk]; omega
      go_wp2
      go_ret2
      exact ReadPost.no hno.out b2
    by_cases hz1 : (zs.length : Int) ≤ zn
    · have hno : Hid (rdOk size zs zn at_ m = false) := by show rdOk size zs zn at_ m = false; simp [rdOk]; omega
      go_wp2
      go_ret2
      exact ReadPost.no hno.out b2
    by_cases ha0 : at_ < 0
    · have hno : Hid (rdOk size zs zn at_ m = false) := by show rdOk size zs zn at_ m = false; simp [rdOk]; omega
      go_wp2
      go_ret2
      exact ReadPost.no hno.out b2
    by_cases hm0 : m < 0
    · have hno : Hid (rdOk size zs zn at_ m = false) := by show rdOk size zs zn at_ m = false; simp [rdOk]; omega
      go_wp2
      go_ret2
      exact ReadPost.no hno.out b2
    have ha1 : ((at_.toNat : Nat) : Int) = at_ := by omega
    have hm1 : ((m.toNat : Nat) : Int) = m := by omega
    obtain ⟨gb, o, z, Ai, ci, rfl, hF, hg, hz, c0, c1, c2, c3, hS, hA⟩ := h1.at_ (show zn.toNat < zs.length by omega)
    have hzl := hsm.at_ hz
    have hrd : Hid (rdOk size zs zn at_ m = decide (m ≤ (z.l.length : Int) - at_)) := by
      show rdOk size zs zn at_ m = _
      simp [rdOk, hc, hz]
      omega
    have hrf : Hid (rdF size zs zn at_ m = (z.l.take (at_ + m).toNat).drop at_.toNat) := by
      show rdF size zs zn at_ m = _
      simp [rdF, hz]
    have hw1 : wrap64 ((z.l.length : Int) - at_) = (z.l.length : Int) - at_ := wrap64_small (by omega) (by omega)
    by_cases hgt : (z.l.length : Int) - at_ < m
    · have hno : Hid (rdOk size zs zn at_ m = false) := by show rdOk size zs zn at_ m = false; rw [hrd.out]; simp; omega
      clear ha1 hm1 hS hA hz
      go_wp2
      go_ret2
      exact ReadPost.no hno.out b2
    · have hyes : Hid (rdOk size zs zn at_ m = true) := by show rdOk size zs zn at_ m = true; rw [hrd.out]; simp; omega
      have hw2 : wrap64 (at_ + m) = at_ + m := wrap64_small (by omega) (by omega)
      have hci := hS.cap
      have hcut := fun W => run_cut2 (P := Tryd.prog) 24 5 un22 el22 sz5 Ai z.l.length ci .i64 .i64 at_ (at_ + m) at_.toNat (at_ + m).toNat (by omega) (by omega) (by omega) (by omega) W
      have hS2 := hS.cut (k := at_.toNat) (m := (at_ + m).toNat) (by omega) (by omega)
      have hl : Hid ((at_ + m).toNat - at_.toNat = ((z.l.take (at_ + m).toNat).drop at_.toNat).length) := by
        show _ = _
        rw [List.length_drop, List.length_take]
        omega
      have hq : Hid ((at_ + m).toNat - at_.toNat ≤ 10000000000000) := by show _ ≤ _; omega
      clear ha1 hm1 hS hA hz hci
      go_wp2_with fail
      rw [← List.map_take, ← List.map_drop] at hS2
      refine (dcopiedBytes_any _ _ _ ((z.l.take (at_ + m).toNat).drop at_.toNat) w1 hS2 hq.out).mono ?_
      rintro e w2 ⟨A2, c2, rfl, N2, b3⟩
      clear hcut hS2
      have hl2 : Hid ((at_ + m).toNat - at_.toNat = (rdF size zs zn at_ m).length) := by
        show _ = _
        rw [hrf.out]
        exact hl.out
      go_wp2
      go_ret2
      refine .inl ⟨hyes.out, A2, c2, ?_, ?_, b2.trans (b3.mono b2.size)⟩
      · rw [← hl2.out]
        rfl
      · rw [← hl2.out, hrf.out]
        exact N2.mono (by have := b1.size; omega)
end Go.Proofs.YtnejiclghnigiaaDoor
namespace Go.Proofs.YtnejiclghnigiaaDoor
open Go.RowKit Go.Wag
set_option linter.unusedVariables false
set_option maxRecDepth 20000

/-- A command's work in block kw: the device that it is done with, in memory of its own (blocks from BB on, not kw), and the command, whose bytes lie below BB. -/
structure Wk (BB kw g : Nat) (w : World) (size lf dn : Int) (dw : Bool) (zs : List Zp) (kd N : Int) (Ad : Option Addr) (nd cd : Nat) (b : List UInt8) : Prop where
  blk : Blk w kw #[.int .i64 size, .slice (some ⟨g, 0, none⟩) zs.length zs.length, .int .i64 lf, .bool dw, .int .i64 dn, .int .i64 kd, .int .i64 N, .slice Ad nd cd] 91
  zf : Zf (fun b => BB ≤ b ∧ b ≠ kw) 56 w g zs
  sl : Sl w Ad nd cd (b.map v8)
  low : 0 < nd → ∀ ad, Ad = some ad → ad.block < BB
  at_ : BB ≤ kw
theorem Wk.under {BB kw : Nat} {w : World} {size lf dn : Int} {dw : Bool} {zs : List Zp} {kd N : Int} {Ad : Option Addr} {nd cd : Nat} {b : List UInt8} {g : Nat} {w' : World} (h : Wk BB kw g w size lf dn dw zs kd N Ad nd cd b) (hb : Below w.heap.size w w') : Wk BB kw g w' size lf dn dw zs kd N Ad nd cd b :=
  ⟨h.blk.under hb, h.zf.under hb, h.sl.below hb, h.low, h.at_⟩
theorem Wk.alloc {BB kw : Nat} {w : World} {size lf dn : Int} {dw : Bool} {zs : List Zp} {kd N : Int} {Ad : Option Addr} {nd cd : Nat} {b : List UInt8} {g : Nat} (h : Wk BB kw g w size lf dn dw zs kd N Ad nd cd b) (o : Obj) : Wk BB kw g (w.alloc o) size lf dn dw zs kd N Ad nd cd b := h.under ((Below.refl _ _).alloc (Nat.le_refl _) o)
theorem Wk.lt {BB kw : Nat} {w : World} {size lf dn : Int} {dw : Bool} {zs : List Zp} {kd N : Int} {Ad : Option Addr} {nd cd : Nat} {b : List UInt8} {g : Nat} (h : Wk BB kw g w size lf dn dw zs kd N Ad nd cd b) : BB < w.heap.size := Nat.lt_of_le_of_lt h.at_ h.blk.lt
/-- The work behind a call, and its error. -/
def WkPost (BB kw : Nat) (w : World) (size lf dn : Int) (dw : Bool) (zs : List Zp) (kd N : Int) (Ad : Option Addr) (nd cd : Nat) (b : List UInt8) (er : Int) (e : Ending) (w' : World) : Prop :=
  e = .returned (.int .i64 er) ∧ (∃ g, Wk BB kw g w' size lf dn dw zs kd N Ad nd cd b) ∧ Below BB w w'
theorem Wk.post {BB kw : Nat} {w : World} {size lf dn : Int} {dw : Bool} {zs : List Zp} {kd N : Int} {Ad : Option Addr} {nd cd : Nat} {b : List UInt8} {g : Nat} {w' : World} (er : Int) (h : Wk BB kw g w' size lf dn dw zs kd N Ad nd cd b) (hb : Below BB w w') : WkPost BB kw w size lf dn dw zs kd N Ad nd cd b er (.returned (.int .i64 er)) w' := ⟨rfl, ⟨g, h⟩, hb⟩

/-- What a command of a zone makes of the zones, and its error. -/
def chgZs (zs : List Zp) (N : Int) (H : Zp → Zp) (E : Zp → Int) : List Zp := if 0 ≤ N ∧ N < zs.length then (zs[N.toNat]?).elim zs (fun z => if E z = 0 then zs.set N.toNat (H z) else zs) else zs
def chgEr (zs : List Zp) (N : Int) (E : Zp → Int) : Int := if 0 ≤ N ∧ N < zs.length then (zs[N.toNat]?).elim 1 E else 1
theorem chg_no {zs : List Zp} {N : Int} (H : Zp → Zp) (E : Zp → Int) (h : ¬ (0 ≤ N ∧ N < zs.length)) : chgZs zs N H E = zs ∧ chgEr zs N E = 1 := by simp [chgZs, chgEr, h]
theorem chg_yes {zs : List Zp} {N : Int} {z : Zp} (H : Zp → Zp) (E : Zp → Int) (h : 0 ≤ N ∧ N < zs.length) (hz : zs[N.toNat]? = some z) : chgZs zs N H E = (if E z = 0 then zs.set N.toNat (H z) else zs) ∧ chgEr zs N E = E z :=
  ⟨by rw [chgZs, if_pos h, hz]; rfl, by rw [chgEr, if_pos h, hz]; rfl⟩

/-- A zone and an error beside it; without an error the zone is in memory of its own. -/
def ZEW (w : World) (z : Zp) (er : Int) (e : Ending) (w' : World) : Prop :=
  ∃ A c, e = .returned (.tuple #[.agg #[.int .i64 z.st, .int .i64 z.rs, .slice A z.l.length c, .int .i64 z.la], .int .i64 er]) ∧ (er = 0 → Nw 5 w w' A z.l.length c (z.l.map v8)) ∧ Below w.heap.size w w'
theorem ZoneErr.zew {w : World} {z : Zp} {er : Int} (e : Ending) (w' : World) (h : ZoneErr w z.st z.rs z.l z.la er e w') : ZEW w z er e w' := by
  obtain ⟨A, n, c, rfl, hN, hb⟩ := h
  obtain rfl : z.l.length = n := hN.sl.len8
  exact ⟨A, c, rfl, fun _ => hN, hb⟩

theorem ret_zew {fn : Func} {tmps : Array Value} {p u : Tmp} {base kr : Nat} {w w6 : World} {er : Int} {a b c d : Value} {A : Option Addr} {n m : Nat} (z : Zp) (hr : fn.results = #[.cell p 56, .tmp u]) (hp : tmps.getD p undef = .pointer (some ⟨kr, 0, none⟩))
    (hv : tmps.getD u undef = .int .i64 er) (hB : Blk w6 kr #[a, b, c, d] 56) (hO : w6.ownsRow base 5 1 (.slice A n m) n (z.l.map v8)) (hk : kr < base) (hw : w.heap.size ≤ kr) (hb : Below w.heap.size w w6) :
    bodyPost Tryd.prog fn (ZEW w z er) .ret ⟨tmps, []⟩ ((((w6.setCell ⟨kr, 0, none⟩ (.int .i64 z.st)).setCell ⟨kr, 1, none⟩ (.int .i64 z.rs)).setCell ⟨kr, 2, none⟩ (.slice A n m)).setCell ⟨kr, 3, none⟩ (.int .i64 z.la)) := by
  obtain ⟨h1, h2, h3⟩ := zone_stored (st := z.st) (rs := z.rs) (la := z.la) hB hO hk hw hb
  exact ret_blk2 hr hp h1 Tryd.underlying56 (by kernel_rfl) hv (ZoneErr.zew _ _ (ZoneErr.mk h2 h3))

set_option maxHeartbeats 2000000 in
theorem dchange_any (f : FuncId) (cap : Array Value) (H : Zp → Zp) (E : Zp → Int) {BB kw g : Nat} {size lf dn : Int} {dw : Bool} {zs : List Zp} {kd N : Int} {Ad : Option Addr} {nd cd : Nat} {b : List UInt8} (w : World) (h : Wk BB kw g w size lf dn dw zs kd N Ad nd cd b) (hn : zs.length ≤ 100)
    (hent : ∀ u w, (callFunc f (#[u] ++ cap)).run Tryd.prog w = .ok (.enter f (#[u] ++ cap)) w)
    (hf : ∀ z Ai ci, zs[N.toNat]? = some z → Sl w Ai z.l.length ci (z.l.map v8) → Calls Tryd.prog f (#[.agg #[.int .i64 z.st, .int .i64 z.rs, .slice Ai z.l.length ci, .int .i64 z.la]] ++ cap) w (ZEW w (H z) (E z))) :
    Calls Tryd.prog 82 #[.pointer (some ⟨kw, 0, none⟩), .func (.func f) #[] cap] w (WkPost BB kw w size lf dn dw (chgZs zs N H E) kd N Ad nd cd b (chgEr zs N E)) := by
  obtain ⟨p0, p1, p2, p3, p4, p5, p6, p7, _⟩ := h.blk.eight
  go_enter Tryd.func82, Tryd.ntmps82
  by_cases hN0 : N < 0
  · have e0 : Hid _ := chg_no (zs := zs) (N := N) H E (by omega)
    go_wp2
    go_ret
    rw [e0.out.1, e0.out.2]
    exact h.post 1 (Below.refl _ _)
  by_cases hN1 : (zs.length : Int) ≤ N
  · have e0 : Hid _ := chg_no (zs := zs) (N := N) H E (by omega)
    go_wp2
    go_ret
    rw [e0.out.1, e0.out.2]
    exact h.post 1 (Below.refl _ _)
  have hNl : N.toNat < zs.length := by omega
  have hZ := (h.zf.toZs hn)
  obtain ⟨gb, o, z, Ai, ci, hge, hF, hg, hz, c0, c1, c2, c3, hS, hA⟩ := hZ.at_ hNl
  obtain ⟨rfl, rfl⟩ : g = gb ∧ 0 = o := by
    cases hge
    exact ⟨rfl, rfl⟩
  clear hge
  rw [Nat.zero_add] at c0 c1 c2 c3
  have e0 : Hid _ := chg_yes (zs := zs) (N := N) H E (by omega) hz
  go_wp2_with fail
  have hC := hf z Ai ci hz hS
  refine hC.mono ?_
  clear hC
  rintro e w1 ⟨A1, c1', rfl, N1, b1⟩
  replace N1 : Hid _ := N1
  have h1 := h.under b1
  have hB1 := b1.size
  have hkw := h.blk.lt
  have bb : Below BB w (w1.alloc (.cells #[.int .i64 (H z).st, .int .i64 (H z).rs, .slice A1 (H z).l.length c1', .int .i64 (H z).la] 56)) := ((b1.mono (Nat.le_of_lt h.lt))).alloc (Nat.le_of_lt h1.lt) _
  have h2 := h1.alloc (.cells #[.int .i64 (H z).st, .int .i64 (H z).rs, .slice A1 (H z).l.length c1', .int .i64 (H z).la] 56)
  have V := Blk.new w1 #[.int .i64 (H z).st, .int .i64 (H z).rs, .slice A1 (H z).l.length c1', .int .i64 (H z).la] 56
  have NA : Hid _ := fun hE => (N1.out hE).alloc (.cells #[.int .i64 (H z).st, .int .i64 (H z).rs, .slice A1 (H z).l.length c1', .int .i64 (H z).la] 56)
  have hgl := h.zf.lt
  by_cases hE : E z = 0
  · have e3 : Hid _ := hE
    replace NA := NA.out hE
    clear N1
    rw [hE]
    clear hE
    go_wp2_with fail
    generalize w1.alloc (.cells #[.int .i64 (H z).st, .int .i64 (H z).rs, .slice A1 (H z).l.length c1', .int .i64 (H z).la] 56) = w2 at *
    obtain ⟨kz, hkz⟩ : ∃ k, w1.heap.size = k := ⟨_, rfl⟩
    rw [hkz] at V
    simp only [hkz]
    have hk1 : kz ≠ g := by omega
    have hk2 : kw ≠ g := fun e => h2.zf.base.2 e.symm
    refine wp_region_held_drew (S := fun w' => But g w2 w') (by kernel_rfl) (But.refl _ _).drew (fun hHeld => ?_)
    try dsimp only at hHeld
    have bd := (Below.refl w2.heap.size w2).drew
    have h3 := h2.under bd
    have bb2 := bb.trans (bd.mono (Nat.le_of_lt h2.lt))
    have NB := NA.below bd
    generalize w2.drew = wd at *
    try simp only [Act.put, List.setIfInBounds_toArray, List.set_cons_zero, List.set_cons_succ]
    refine wpAnyH_take (i := 0) (v := ?_) (by simp only [List.getElem?_toArray, List.getElem?_cons_zero]; rfl) (by kernel_rfl) (by kernel_rfl) (by kernel_rfl) (by intro _ _ _ h; exact h) (Or.inl ⟨by rfl, ?_⟩) hHeld ?_
    rotate_left 1
    · intro wq hSw
      try dsimp only at hSw
      go_simp
      try (with_reducible rfl)
    try simp only [Act.put, List.setIfInBounds_toArray, List.set_cons_zero, List.set_cons_succ]
    refine wpAnyH_take (i := 1) (v := ?_) (by simp only [List.getElem?_toArray, List.getElem?_cons_succ, List.getElem?_cons_zero]; rfl) (by kernel_rfl) (by kernel_rfl) (by kernel_rfl) (by intro _ _ _ h; exact h) (Or.inl ⟨by rfl, ?_⟩) hHeld ?_
    rotate_left 1
    · intro wq hSw
      try dsimp only at hSw
      go_simp
      try (with_reducible rfl)
    try simp only [Act.put, List.setIfInBounds_toArray, List.set_cons_zero, List.set_cons_succ]
    refine wpAnyH_take (i := 2) (v := ?_) (by simp only [List.getElem?_toArray, List.getElem?_cons_succ, List.getElem?_cons_zero]; rfl) (by kernel_rfl) (by kernel_rfl) (by kernel_rfl) (by intro _ _ _ h; exact h) (Or.inl ⟨by rfl, ?_⟩) hHeld ?_
    rotate_left 1
    · intro wq hSw
      try dsimp only at hSw
      go_simp
      try (with_reducible rfl)
    try simp only [Act.put, List.setIfInBounds_toArray, List.set_cons_zero, List.set_cons_succ]
    refine wpAnyH_take (i := 3) (v := ?_) (by simp only [List.getElem?_toArray, List.getElem?_cons_succ, List.getElem?_cons_zero]; rfl) (by kernel_rfl) (by kernel_rfl) (by kernel_rfl) (by intro _ _ _ h; exact h) (Or.inl ⟨by rfl, ?_⟩) hHeld ?_
    rotate_left 1
    · intro wq hSw
      try dsimp only at hSw
      go_simp
      try (with_reducible rfl)
    try simp only [Act.put, List.setIfInBounds_toArray, List.set_cons_zero, List.set_cons_succ]
    refine wpAnyH_take (i := 4) (v := ?_) (by simp only [List.getElem?_toArray, List.getElem?_cons_succ, List.getElem?_cons_zero]; rfl) (by kernel_rfl) (by kernel_rfl) (by kernel_rfl) (by intro _ _ _ h; exact h) (Or.inl ⟨by rfl, ?_⟩) hHeld ?_
    rotate_left 1
    · intro wq hSw
      try dsimp only at hSw
      obtain ⟨x0, x1, x2, x3, x4, x5, x6, x7, _⟩ := (h2.blk.but hSw hk2).eight
      go_simp
      try (with_reducible rfl)
    try simp only [Act.put, List.setIfInBounds_toArray, List.set_cons_zero, List.set_cons_succ]
    refine wpAnyH_take (i := 5) (v := ?_) (by simp only [List.getElem?_toArray, List.getElem?_cons_succ, List.getElem?_cons_zero]; rfl) (by kernel_rfl) (by kernel_rfl) (by kernel_rfl) (by intro _ _ _ h; exact h) (Or.inl ⟨by rfl, ?_⟩) hHeld ?_
    rotate_left 1
    · intro wq hSw
      try dsimp only at hSw
      go_simp
      try (with_reducible rfl)
    try simp only [Act.put, List.setIfInBounds_toArray, List.set_cons_zero, List.set_cons_succ]
    refine wpAnyH_take (i := 6) (v := ?_) (by simp only [List.getElem?_toArray, List.getElem?_cons_succ, List.getElem?_cons_zero]; rfl) (by kernel_rfl) (by kernel_rfl) (by kernel_rfl) (by intro _ _ _ h; exact h) (Or.inl ⟨by rfl, ?_⟩) hHeld ?_
    rotate_left 1
    · intro wq hSw
      try dsimp only at hSw
      obtain ⟨x0, x1, x2, x3, _⟩ := (V.but hSw hk1).four
      go_simp
      try (with_reducible rfl)
    try simp only [Act.put, List.setIfInBounds_toArray, List.set_cons_zero, List.set_cons_succ]
    refine wpAnyH_take (i := 7) (v := ?_) (by simp only [List.getElem?_toArray, List.getElem?_cons_succ, List.getElem?_cons_zero]; rfl) (by kernel_rfl) (by kernel_rfl) (by kernel_rfl) (by intro _ _ _ h; exact h) (Or.inl ⟨by rfl, ?_⟩) hHeld ?_
    rotate_left 1
    · intro wq hSw
      try dsimp only at hSw
      go_simp
      try (with_reducible rfl)
    try simp only [Act.put, List.setIfInBounds_toArray, List.set_cons_zero, List.set_cons_succ]
    refine wpAnyH_ready (rs := [8]) (by kernel_rfl) (by simp) ?_
    refine AllReadyH.cons (by simp only [List.getElem?_toArray, List.getElem?_cons_succ, List.getElem?_cons_zero]; rfl) (fun K hK => ?_) AllReadyH.nil
    obtain ⟨⟨q0, q1, q2, q3, d0, d1, d2, d3⟩, f0, f1, f2, f3⟩ := h3.zf.cells hNl
    go_simp
    refine hK.out _ _ ((((hHeld.set _ _).set _ _).set _ _).set _ _) (fun hHeld => ?_)
    clear hK K
    try dsimp only at hHeld
    try simp only [Act.put, List.setIfInBounds_toArray, List.set_cons_zero, List.set_cons_succ]
    refine wpAnyH_done (by kernel_rfl) ?_ _
    have HZ3 := h3.zf.set hNl (H z) NB.sl (fun _ ad e => by
      have h1 := NB.fr ad e
      exact ⟨⟨by have := h.lt; omega, by omega⟩, by omega⟩)
    have hBg := h3.zf.base.1
    have b4 := (((bb2.setCell (p := ⟨g, N.toNat * 4, none⟩) hBg (.int .i64 (H z).st)).setCell (p := ⟨g, N.toNat * 4 + 1, none⟩) hBg (.int .i64 (H z).rs)).setCell (p := ⟨g, N.toNat * 4 + 2, none⟩) hBg (.slice A1 (H z).l.length c1')).setCell (p := ⟨g, N.toNat * 4 + 3, none⟩) hBg (.int .i64 (H z).la)
    have B4 := (((h3.blk.far (a := ⟨g, N.toNat * 4, none⟩) hk2 (.int .i64 (H z).st)).far (a := ⟨g, N.toNat * 4 + 1, none⟩) hk2 (.int .i64 (H z).rs)).far (a := ⟨g, N.toNat * 4 + 2, none⟩) hk2 (.slice A1 (H z).l.length c1')).far (a := ⟨g, N.toNat * 4 + 3, none⟩) hk2 (.int .i64 (H z).la)
    have hlw : ∀ i : Nat, 0 < nd → ∀ ad, Ad = some ad → ad.block ≠ (⟨g, i, none⟩ : Addr).block := fun i hn ad e hh => by
      have h5 := h.low hn ad e
      have h6 : ad.block = g := hh
      omega
    have S4 := (((h3.sl.farz (hlw (N.toNat * 4)) (.int .i64 (H z).st)).farz (hlw (N.toNat * 4 + 1)) (.int .i64 (H z).rs)).farz (hlw (N.toNat * 4 + 2)) (.slice A1 (H z).l.length c1')).farz (hlw (N.toNat * 4 + 3)) (.int .i64 (H z).la)
    have hls : Hid (zs.length = (zs.set N.toNat (H z)).length) := (List.length_set).symm
    go_wp2
    go_ret
    rw [hls.out] at B4
    rw [e0.out.1, e0.out.2, if_pos e3.out, e3.out]
    exact Wk.post 0 ⟨B4, HZ3, S4, h.low, h.at_⟩ b4
  · have e3 : Hid _ := hE
    have hq : (E z == 0) = false := by simp [hE]
    clear hE
    go_wp2
    go_ret
    rw [e0.out.1, e0.out.2, if_neg e3.out]
    exact Wk.post (E z) h2 bb
end Go.Proofs.YtnejiclghnigiaaDoor
namespace Go.Proofs.YtnejiclghnigiaaDoor
open Go.RowKit Go.Wag
set_option linter.unusedVariables false
set_option maxRecDepth 20000

def rsH (z : Zp) : Zp := ⟨resSt z.st z.rs, resRs z.st z.rs, resLa z.st z.rs z.la, resDa z.st z.rs z.l⟩
def rsE (z : Zp) : Int := resEr z.st z.rs
def fiH (z : Zp) : Zp := ⟨finSt z.st, z.rs, z.la, z.l⟩
def fiE (z : Zp) : Int := finEr z.st
def clH (z : Zp) : Zp := ⟨cloSt z.st, z.rs, z.la, z.l⟩
def clE (z : Zp) : Int := cloEr z.st
/-- Append, where so many zones are open. -/
def apNo (op : Nat) (z : Zp) : Bool := !(z.st == 1) && decide (3 ≤ (op : Int))
def apH (size : Int) (op : Nat) (b : List UInt8) (z : Zp) : Zp := if apNo op z then z else ⟨appSt z.st z.rs z.l.length z.la size b.length, z.rs, z.la, appDa z.st z.rs z.l.length z.la size b.length z.l b⟩
def apE (size : Int) (op : Nat) (b : List UInt8) (z : Zp) : Int := if apNo op z then 30 else appErrF z.st z.rs z.l.length z.la size b.length

theorem dreset_any {BB kw g : Nat} {size lf dn : Int} {dw : Bool} {zs : List Zp} {kd N : Int} {Ad : Option Addr} {nd cd : Nat} {b : List UInt8} (w : World) (h : Wk BB kw g w size lf dn dw zs kd N Ad nd cd b) (hsm : Sm zs) :
    Calls Tryd.prog 74 #[.pointer (some ⟨kw, 0, none⟩)] w (WkPost BB kw w size lf dn dw (chgZs zs N rsH rsE) kd N Ad nd cd b (chgEr zs N rsE)) := by
  go_enter Tryd.func74, Tryd.ntmps74
  go_wp2_with fail
  refine (dchange_any 85 #[] rsH rsE w h hsm.1 (fun _ _ => by kernel_rfl) (fun z Ai ci hz hS => (zReset_any z.st z.rs z.la Ai z.l.length ci z.l w hS (by have := hsm.at_ hz; omega)).mono (ZoneErr.zew (z := rsH z) (er := rsE z)))).mono ?_
  rintro e w1 ⟨rfl, h1, b1⟩
  go_wp2
  go_ret
  exact ⟨rfl, h1, b1⟩

theorem dfinish_any {BB kw g : Nat} {size lf dn : Int} {dw : Bool} {zs : List Zp} {kd N : Int} {Ad : Option Addr} {nd cd : Nat} {b : List UInt8} (w : World) (h : Wk BB kw g w size lf dn dw zs kd N Ad nd cd b) (hsm : Sm zs) :
    Calls Tryd.prog 75 #[.pointer (some ⟨kw, 0, none⟩)] w (WkPost BB kw w size lf dn dw (chgZs zs N fiH fiE) kd N Ad nd cd b (chgEr zs N fiE)) := by
  go_enter Tryd.func75, Tryd.ntmps75
  go_wp2_with fail
  refine (dchange_any 86 #[] fiH fiE w h hsm.1 (fun _ _ => by kernel_rfl) (fun z Ai ci hz hS => (zFinish_any z.st z.rs z.la Ai z.l.length ci z.l w hS (by have := hsm.at_ hz; omega)).mono (ZoneErr.zew (z := fiH z) (er := fiE z)))).mono ?_
  rintro e w1 ⟨rfl, h1, b1⟩
  go_wp2
  go_ret
  exact ⟨rfl, h1, b1⟩

theorem dclose_any {BB kw g : Nat} {size lf dn : Int} {dw : Bool} {zs : List Zp} {kd N : Int} {Ad : Option Addr} {nd cd : Nat} {b : List UInt8} (w : World) (h : Wk BB kw g w size lf dn dw zs kd N Ad nd cd b) (hsm : Sm zs) :
    Calls Tryd.prog 76 #[.pointer (some ⟨kw, 0, none⟩)] w (WkPost BB kw w size lf dn dw (chgZs zs N clH clE) kd N Ad nd cd b (chgEr zs N clE)) := by
  go_enter Tryd.func76, Tryd.ntmps76
  go_wp2_with fail
  refine (dchange_any 87 #[] clH clE w h hsm.1 (fun _ _ => by kernel_rfl) (fun z Ai ci hz hS => (zClose_any z.st z.rs z.la Ai z.l.length ci z.l w hS (by have := hsm.at_ hz; omega)).mono (ZoneErr.zew (z := clH z) (er := clE z)))).mono ?_
  rintro e w1 ⟨rfl, h1, b1⟩
  go_wp2
  go_ret
  exact ⟨rfl, h1, b1⟩

set_option maxHeartbeats 2000000 in
theorem dappend1_any (z : Zp) (Ai : Option Addr) (ci kb : Nat) {BB kw g : Nat} {size lf dn : Int} {dw : Bool} {zs : List Zp} {kd N : Int} {Ad : Option Addr} {nd cd : Nat} {b : List UInt8} (w : World) (h : Wk BB kw g w size lf dn dw zs kd N Ad nd cd b) (hsm : Sm zs) (hS : Sl w Ai z.l.length ci (z.l.map v8)) (hzl : z.l.length ≤ 1048576) (hb : Blk w kb #[.pointer (some ⟨kw, 0, none⟩)] 89) (hnd : nd ≤ 10000) (hbl : b.length = nd) :
    Calls Tryd.prog 83 #[.agg #[.int .i64 z.st, .int .i64 z.rs, .slice Ai z.l.length ci, .int .i64 z.la], .pointer (some ⟨kb, 0, none⟩)] w (ZEW w (apH size (openF zs) b z) (apE size (openF zs) b z)) := by
  obtain ⟨st, rs, la, l⟩ := z
  dsimp only at hS hzl ⊢
  have hAi : 0 < l.length → ∀ ad, Ai = some ad → ad.block ≠ w.heap.size + 1 := fun hn ad e => by
    obtain ⟨ad', e', hb, _⟩ := hS.cells hn
    cases e.symm.trans e'
    omega
  have hAd : 0 < nd → ∀ ad, Ad = some ad → ad.block ≠ w.heap.size + 1 := fun hn ad e => by
    have h1 := h.low hn ad e
    have h2 := h.lt
    omega
  have B0 := (Blk.new w #[.int .i64 st, .int .i64 rs, .slice Ai l.length ci, .int .i64 la] 56).alloc (.cells #[.int .i64 0, .int .i64 0, .slice none 0 0, .int .i64 0] 56)
  have B1 := Blk.new (w.alloc (.cells #[.int .i64 st, .int .i64 rs, .slice Ai l.length ci, .int .i64 la] 56)) #[.int .i64 0, .int .i64 0, .slice none 0 0, .int .i64 0] 56
  have b0 := ((Below.refl w.heap.size w).alloc (Nat.le_refl _) (.cells #[.int .i64 st, .int .i64 rs, .slice Ai l.length ci, .int .i64 la] 56)).alloc (by simp) (.cells #[.int .i64 0, .int .i64 0, .slice none 0 0, .int .i64 0] 56)
  have hs0 : ((w.alloc (.cells #[.int .i64 st, .int .i64 rs, .slice Ai l.length ci, .int .i64 la] 56)).alloc (.cells #[.int .i64 0, .int .i64 0, .slice none 0 0, .int .i64 0] 56)).heap.size = w.heap.size + 2 := by simp
  simp only [World.size_alloc] at B1
  have hkl := hb.lt
  have hwl := h.blk.lt
  replace hS := hS.below b0
  replace h := h.under b0
  replace hb := hb.under b0
  obtain ⟨k0, _⟩ := hb.one
  obtain ⟨p0, p1, p2, p3, p4, p5, p6, p7, _⟩ := h.blk.eight
  replace hbl : Hid (b.length = nd) := hbl
  obtain ⟨HH, hHH⟩ : ∃ x, x = apH size (openF zs) b (Zp.mk st rs la l) := ⟨_, rfl⟩
  obtain ⟨EE, hEE⟩ : ∃ x, x = apE size (openF zs) b (Zp.mk st rs la l) := ⟨_, rfl⟩
  rw [← hHH, ← hEE]
  replace hHH : Hid (HH = apH size (openF zs) b (Zp.mk st rs la l)) := hHH
  replace hEE : Hid (EE = apE size (openF zs) b (Zp.mk st rs la l)) := hEE
  go_enter Tryd.func83, Tryd.ntmps83
  by_cases hst : st = 1
  · subst hst
    have hno : Hid (apNo (openF zs) (Zp.mk 1 rs la l) = false) := by show apNo (openF zs) (Zp.mk 1 rs la l) = false; simp [apNo]
    go_wp2_with fail
    generalize ((w.alloc (.cells #[.int .i64 1, .int .i64 rs, .slice Ai l.length ci, .int .i64 la] 56)).alloc (.cells #[.int .i64 0, .int .i64 0, .slice none 0 0, .int .i64 0] 56)) = w1 at *
    clear k0 p0 p1 p2 p3 p4 p5 p6 p7
    have b2 := b0
    refine wp_region_held_drew (S := fun w' => But (w.heap.size + 1) w1 w') (by kernel_rfl) (But.refl _ _).drew (fun hHeld => ?_)
    try dsimp only at hHeld
    have bd := (Below.refl w1.heap.size w1).drew
    generalize w1.drew = wd at *
    try simp only [Act.put, List.setIfInBounds_toArray, List.set_cons_zero, List.set_cons_succ]
    refine wpAnyH_take (i := 0) (v := ?_) (by simp only [List.getElem?_toArray, List.getElem?_cons_zero]; rfl) (by kernel_rfl) (by kernel_rfl) (by kernel_rfl) (by intro _ _ _ h; exact h) (Or.inl ⟨by rfl, ?_⟩) hHeld ?_
    rotate_left 1
    · intro wq hSw
      try dsimp only at hSw
      obtain ⟨x0, x1, x2, x3, _⟩ := (B0.but hSw (by omega)).four
      go_simp
      try (with_reducible rfl)
    try simp only [Act.put, List.setIfInBounds_toArray, List.set_cons_zero, List.set_cons_succ]
    refine wpAnyH_take (i := 1) (v := ?_) (by simp only [List.getElem?_toArray, List.getElem?_cons_succ, List.getElem?_cons_zero]; rfl) (by kernel_rfl) (by kernel_rfl) (by kernel_rfl) (by intro _ _ _ h; exact h) (Or.inl ⟨by rfl, ?_⟩) hHeld ?_
    rotate_left 1
    · intro wq hSw
      try dsimp only at hSw
      obtain ⟨x0, _⟩ := (hb.but hSw (by omega)).one
      go_simp
      try (with_reducible rfl)
    try simp only [Act.put, List.setIfInBounds_toArray, List.set_cons_zero, List.set_cons_succ]
    refine wpAnyH_take (i := 2) (v := ?_) (by simp only [List.getElem?_toArray, List.getElem?_cons_succ, List.getElem?_cons_zero]; rfl) (by kernel_rfl) (by kernel_rfl) (by kernel_rfl) (by intro _ _ _ h; exact h) (Or.inl ⟨by rfl, ?_⟩) hHeld ?_
    rotate_left 1
    · intro wq hSw
      try dsimp only at hSw
      go_simp
      try (with_reducible rfl)
    try simp only [Act.put, List.setIfInBounds_toArray, List.set_cons_zero, List.set_cons_succ]
    refine wpAnyH_take (i := 3) (v := ?_) (by simp only [List.getElem?_toArray, List.getElem?_cons_succ, List.getElem?_cons_zero]; rfl) (by kernel_rfl) (by kernel_rfl) (by kernel_rfl) (by intro _ _ _ h; exact h) (Or.inl ⟨by rfl, ?_⟩) hHeld ?_
    rotate_left 1
    · intro wq hSw
      try dsimp only at hSw
      go_simp
      try (with_reducible rfl)
    try simp only [Act.put, List.setIfInBounds_toArray, List.set_cons_zero, List.set_cons_succ]
    refine wpAnyH_take (i := 4) (v := ?_) (by simp only [List.getElem?_toArray, List.getElem?_cons_succ, List.getElem?_cons_zero]; rfl) (by kernel_rfl) (by kernel_rfl) (by kernel_rfl) (by intro _ _ _ h; exact h) (Or.inl ⟨by rfl, ?_⟩) hHeld ?_
    rotate_left 1
    · intro wq hSw
      try dsimp only at hSw
      go_simp
      try (with_reducible rfl)
    try simp only [Act.put, List.setIfInBounds_toArray, List.set_cons_zero, List.set_cons_succ]
    refine wpAnyH_take (i := 5) (v := ?_) (by simp only [List.getElem?_toArray, List.getElem?_cons_succ, List.getElem?_cons_zero]; rfl) (by kernel_rfl) (by kernel_rfl) (by kernel_rfl) (by intro _ _ _ h; exact h) (Or.inl ⟨by rfl, ?_⟩) hHeld ?_
    rotate_left 1
    · intro wq hSw
      try dsimp only at hSw
      obtain ⟨x0, x1, x2, x3, x4, x5, x6, x7, _⟩ := (h.blk.but hSw (by omega)).eight
      go_simp
      try (with_reducible rfl)
    try simp only [Act.put, List.setIfInBounds_toArray, List.set_cons_zero, List.set_cons_succ]
    refine wpAnyH_take (i := 6) (v := ?_) (by simp only [List.getElem?_toArray, List.getElem?_cons_succ, List.getElem?_cons_zero]; rfl) (by kernel_rfl) (by kernel_rfl) (by kernel_rfl) (by intro _ _ _ h; exact h) (Or.inl ⟨by rfl, ?_⟩) hHeld ?_
    rotate_left 1
    · intro wq hSw
      try dsimp only at hSw
      obtain ⟨x0, _⟩ := (hb.but hSw (by omega)).one
      go_simp
      try (with_reducible rfl)
    try simp only [Act.put, List.setIfInBounds_toArray, List.set_cons_zero, List.set_cons_succ]
    refine wpAnyH_take (i := 7) (v := ?_) (by simp only [List.getElem?_toArray, List.getElem?_cons_succ, List.getElem?_cons_zero]; rfl) (by kernel_rfl) (by kernel_rfl) (by kernel_rfl) (by intro _ _ _ h; exact h) (Or.inl ⟨by rfl, ?_⟩) hHeld ?_
    rotate_left 1
    · intro wq hSw
      try dsimp only at hSw
      go_simp
      try (with_reducible rfl)
    try simp only [Act.put, List.setIfInBounds_toArray, List.set_cons_zero, List.set_cons_succ]
    refine wpAnyH_take (i := 8) (v := ?_) (by simp only [List.getElem?_toArray, List.getElem?_cons_succ, List.getElem?_cons_zero]; rfl) (by kernel_rfl) (by kernel_rfl) (by kernel_rfl) (by intro _ _ _ h; exact h) (Or.inl ⟨by rfl, ?_⟩) hHeld ?_
    rotate_left 1
    · intro wq hSw
      try dsimp only at hSw
      go_simp
      try (with_reducible rfl)
    try simp only [Act.put, List.setIfInBounds_toArray, List.set_cons_zero, List.set_cons_succ]
    refine wpAnyH_take (i := 9) (v := ?_) (by simp only [List.getElem?_toArray, List.getElem?_cons_succ, List.getElem?_cons_zero]; rfl) (by kernel_rfl) (by kernel_rfl) (by kernel_rfl) (by intro _ _ _ h; exact h) (Or.inl ⟨by rfl, ?_⟩) hHeld ?_
    rotate_left 1
    · intro wq hSw
      try dsimp only at hSw
      go_simp
      try (with_reducible rfl)
    try simp only [Act.put, List.setIfInBounds_toArray, List.set_cons_zero, List.set_cons_succ]
    refine wpAnyH_take (i := 10) (v := ?_) (by simp only [List.getElem?_toArray, List.getElem?_cons_succ, List.getElem?_cons_zero]; rfl) (by kernel_rfl) (by kernel_rfl) (by kernel_rfl) (by intro _ _ _ h; exact h) (Or.inl ⟨by rfl, ?_⟩) hHeld ?_
    rotate_left 1
    · intro wq hSw
      try dsimp only at hSw
      obtain ⟨x0, x1, x2, x3, x4, x5, x6, x7, _⟩ := (h.blk.but hSw (by omega)).eight
      go_simp
      try (with_reducible rfl)
    try simp only [Act.put, List.setIfInBounds_toArray, List.set_cons_zero, List.set_cons_succ]
    refine wpAnyH_ready (rs := [11]) (by kernel_rfl) (by simp) ?_
    refine AllReadyH.cons (by simp only [List.getElem?_toArray, List.getElem?_cons_succ, List.getElem?_cons_zero]; rfl) (fun K hK => ?_) AllReadyH.nil
    have hC := zAppend_any 1 rs la size Ad nd cd b Ai l.length ci l wd (hS.but hHeld hAi) (h.sl.but hHeld hAd) (by omega) (by omega)
    go_simp
    refine hC.mono ?_
    clear hC
    rintro e w2 ⟨A2, n2, c2, rfl, N2, b3⟩
    go_wp2_with fail
    refine hK.out _ _ (hHeld.call b3) (fun hHeld => ?_)
    clear hK K
    try dsimp only at hHeld
    try simp only [Act.put, List.setIfInBounds_toArray, List.set_cons_zero, List.set_cons_succ]
    refine wpAnyH_take (i := 12) (v := ?_) (by simp only [List.getElem?_toArray, List.getElem?_cons_succ, List.getElem?_cons_zero]; rfl) (by kernel_rfl) (by kernel_rfl) (by kernel_rfl) (by intro _ _ _ h; exact h) (Or.inl ⟨by rfl, ?_⟩) hHeld ?_
    rotate_left 1
    · intro wq hSw
      try dsimp only at hSw
      go_simp
      try (with_reducible rfl)
    try simp only [Act.put, List.setIfInBounds_toArray, List.set_cons_zero, List.set_cons_succ]
    refine wpAnyH_take (i := 13) (v := ?_) (by simp only [List.getElem?_toArray, List.getElem?_cons_succ, List.getElem?_cons_zero]; rfl) (by kernel_rfl) (by kernel_rfl) (by kernel_rfl) (by intro _ _ _ h; exact h) (Or.inl ⟨by rfl, ?_⟩) hHeld ?_
    rotate_left 1
    · intro wq hSw
      try dsimp only at hSw
      go_simp
      try (with_reducible rfl)
    try simp only [Act.put, List.setIfInBounds_toArray, List.set_cons_zero, List.set_cons_succ]
    refine wpAnyH_ready (rs := [14]) (by kernel_rfl) (by simp) ?_
    refine AllReadyH.cons (by simp only [List.getElem?_toArray, List.getElem?_cons_succ, List.getElem?_cons_zero]; rfl) (fun K hK => ?_) AllReadyH.nil
    have bz : Below w.heap.size w w2 := (b2.trans (bd.mono (by omega))).trans (b3.mono (by have := bd.size; omega))
    have B2 := (B1.below bd (by omega)).under b3
    obtain ⟨r0, r1, r2, r3, g0, g1, g2, g3⟩ := B2.four
    go_simp
    refine hK.out _ _ ((((hHeld.set 0 _).set 1 _).set 2 _).set 3 _) (fun hHeld => ?_)
    clear hK K
    try dsimp only at hHeld
    try simp only [Act.put, List.setIfInBounds_toArray, List.set_cons_zero, List.set_cons_succ]
    refine wpAnyH_take (i := 15) (v := ?_) (by simp only [List.getElem?_toArray, List.getElem?_cons_succ, List.getElem?_cons_zero]; rfl) (by kernel_rfl) (by kernel_rfl) (by kernel_rfl) (by intro _ _ _ h; exact h) (Or.inl ⟨by rfl, ?_⟩) hHeld ?_
    rotate_left 1
    · intro wq hSw
      try dsimp only at hSw
      go_simp
      try (with_reducible rfl)
    try simp only [Act.put, List.setIfInBounds_toArray, List.set_cons_zero, List.set_cons_succ]
    refine wpAnyH_done (by kernel_rfl) ?_ _
    go_wp2
    try simp only [Exit.inBlock, Exit.then]
    have hH2 : HH = ⟨appSt 1 rs l.length la size nd, rs, la, appDa 1 rs l.length la size nd l b⟩ := by rw [hHH.out, apH, hno.out, hbl.out]; rfl
    have hE2 : EE = appErrF 1 rs l.length la size nd := by rw [hEE.out, apE, hno.out, hbl.out]; rfl
    rw [hH2, hE2]
    exact ret_zew (⟨appSt 1 rs l.length la size nd, rs, la, appDa 1 rs l.length la size nd l b⟩ : Zp) rfl rfl rfl B2 N2 (by have := bd.size; omega) (by omega) bz
  · have hstb : (st == 1) = false := by simp [hst]
    go_wp2_with fail
    generalize ((w.alloc (.cells #[.int .i64 st, .int .i64 rs, .slice Ai l.length ci, .int .i64 la] 56)).alloc (.cells #[.int .i64 0, .int .i64 0, .slice none 0 0, .int .i64 0] 56)) = w0 at *
    clear k0 p0 p1 p2 p3 p4 p5 p6 p7
    refine (dOpen_any size lf dn dw (some ⟨g, 0, none⟩) zs.length zs.length zs w0 (h.zf.toZs hsm.1)).mono ?_
    rintro e w1 ⟨rfl, b1⟩
    have b2 := b0.trans (b1.mono (by omega))
    have hz1 := b1.size
    replace B0 := B0.under b1
    replace B1 := B1.under b1
    replace hS := hS.below b1
    replace h := h.under b1
    replace hb := hb.under b1
    by_cases hop : (3 : Int) ≤ (openF zs : Int)
    · have hno : Hid (apNo (openF zs) (Zp.mk st rs la l) = true) := by show apNo (openF zs) (Zp.mk st rs la l) = true; simp only [apNo, hstb]; simp; omega
      obtain ⟨x0, x1, x2, x3, _⟩ := B0.four
      obtain ⟨r0, r1, r2, r3, g0, g1, g2, g3⟩ := B1.four
      have hH2 : Hid (HH = (Zp.mk st rs la l)) := by show HH = (Zp.mk st rs la l); rw [hHH.out, apH, hno.out]; rfl
      have hE2 : Hid (EE = 30) := by show EE = 30; rw [hEE.out, apE, hno.out]; rfl
      clear hno hHH hEE
      go_wp2
      try simp only [Exit.inBlock, Exit.then]
      rw [hH2.out, hE2.out]
      exact ret_blk2 rfl rfl ((((B1.set 0 _).set 1 _).set 2 _).set 3 _) Tryd.underlying56 (by kernel_rfl) rfl ⟨Ai, ci, rfl, fun h => absurd h (by decide), (((b2.setCell (by simp) _).setCell (by simp) _).setCell (by simp) _).setCell (by simp) _⟩
    · have hno : Hid (apNo (openF zs) (Zp.mk st rs la l) = false) := by show apNo (openF zs) (Zp.mk st rs la l) = false; simp only [apNo]; simp; omega
      go_wp2_with fail
      refine wp_region_held_drew (S := fun w' => But (w.heap.size + 1) w1 w') (by kernel_rfl) (But.refl _ _).drew (fun hHeld => ?_)
      try dsimp only at hHeld
      have bd := (Below.refl w1.heap.size w1).drew
      generalize w1.drew = wd at *
      try simp only [Act.put, List.setIfInBounds_toArray, List.set_cons_zero, List.set_cons_succ]
      refine wpAnyH_take (i := 0) (v := ?_) (by simp only [List.getElem?_toArray, List.getElem?_cons_zero]; rfl) (by kernel_rfl) (by kernel_rfl) (by kernel_rfl) (by intro _ _ _ h; exact h) (Or.inl ⟨by rfl, ?_⟩) hHeld ?_
      rotate_left 1
      · intro wq hSw
        try dsimp only at hSw
        obtain ⟨x0, x1, x2, x3, _⟩ := (B0.but hSw (by omega)).four
        go_simp
        try (with_reducible rfl)
      try simp only [Act.put, List.setIfInBounds_toArray, List.set_cons_zero, List.set_cons_succ]
      refine wpAnyH_take (i := 1) (v := ?_) (by simp only [List.getElem?_toArray, List.getElem?_cons_succ, List.getElem?_cons_zero]; rfl) (by kernel_rfl) (by kernel_rfl) (by kernel_rfl) (by intro _ _ _ h; exact h) (Or.inl ⟨by rfl, ?_⟩) hHeld ?_
      rotate_left 1
      · intro wq hSw
        try dsimp only at hSw
        obtain ⟨x0, _⟩ := (hb.but hSw (by omega)).one
        go_simp
        try (with_reducible rfl)
      try simp only [Act.put, List.setIfInBounds_toArray, List.set_cons_zero, List.set_cons_succ]
      refine wpAnyH_take (i := 2) (v := ?_) (by simp only [List.getElem?_toArray, List.getElem?_cons_succ, List.getElem?_cons_zero]; rfl) (by kernel_rfl) (by kernel_rfl) (by kernel_rfl) (by intro _ _ _ h; exact h) (Or.inl ⟨by rfl, ?_⟩) hHeld ?_
      rotate_left 1
      · intro wq hSw
        try dsimp only at hSw
        go_simp
        try (with_reducible rfl)
      try simp only [Act.put, List.setIfInBounds_toArray, List.set_cons_zero, List.set_cons_succ]
      refine wpAnyH_take (i := 3) (v := ?_) (by simp only [List.getElem?_toArray, List.getElem?_cons_succ, List.getElem?_cons_zero]; rfl) (by kernel_rfl) (by kernel_rfl) (by kernel_rfl) (by intro _ _ _ h; exact h) (Or.inl ⟨by rfl, ?_⟩) hHeld ?_
      rotate_left 1
      · intro wq hSw
        try dsimp only at hSw
        go_simp
        try (with_reducible rfl)
      try simp only [Act.put, List.setIfInBounds_toArray, List.set_cons_zero, List.set_cons_succ]
      refine wpAnyH_take (i := 4) (v := ?_) (by simp only [List.getElem?_toArray, List.getElem?_cons_succ, List.getElem?_cons_zero]; rfl) (by kernel_rfl) (by kernel_rfl) (by kernel_rfl) (by intro _ _ _ h; exact h) (Or.inl ⟨by rfl, ?_⟩) hHeld ?_
      rotate_left 1
      · intro wq hSw
        try dsimp only at hSw
        go_simp
        try (with_reducible rfl)
      try simp only [Act.put, List.setIfInBounds_toArray, List.set_cons_zero, List.set_cons_succ]
      refine wpAnyH_take (i := 5) (v := ?_) (by simp only [List.getElem?_toArray, List.getElem?_cons_succ, List.getElem?_cons_zero]; rfl) (by kernel_rfl) (by kernel_rfl) (by kernel_rfl) (by intro _ _ _ h; exact h) (Or.inl ⟨by rfl, ?_⟩) hHeld ?_
      rotate_left 1
      · intro wq hSw
        try dsimp only at hSw
        obtain ⟨x0, x1, x2, x3, x4, x5, x6, x7, _⟩ := (h.blk.but hSw (by omega)).eight
        go_simp
        try (with_reducible rfl)
      try simp only [Act.put, List.setIfInBounds_toArray, List.set_cons_zero, List.set_cons_succ]
      refine wpAnyH_take (i := 6) (v := ?_) (by simp only [List.getElem?_toArray, List.getElem?_cons_succ, List.getElem?_cons_zero]; rfl) (by kernel_rfl) (by kernel_rfl) (by kernel_rfl) (by intro _ _ _ h; exact h) (Or.inl ⟨by rfl, ?_⟩) hHeld ?_
      rotate_left 1
      · intro wq hSw
        try dsimp only at hSw
        obtain ⟨x0, _⟩ := (hb.but hSw (by omega)).one
        go_simp
        try (with_reducible rfl)
      try simp only [Act.put, List.setIfInBounds_toArray, List.set_cons_zero, List.set_cons_succ]
      refine wpAnyH_take (i := 7) (v := ?_) (by simp only [List.getElem?_toArray, List.getElem?_cons_succ, List.getElem?_cons_zero]; rfl) (by kernel_rfl) (by kernel_rfl) (by kernel_rfl) (by intro _ _ _ h; exact h) (Or.inl ⟨by rfl, ?_⟩) hHeld ?_
      rotate_left 1
      · intro wq hSw
        try dsimp only at hSw
        go_simp
        try (with_reducible rfl)
      try simp only [Act.put, List.setIfInBounds_toArray, List.set_cons_zero, List.set_cons_succ]
      refine wpAnyH_take (i := 8) (v := ?_) (by simp only [List.getElem?_toArray, List.getElem?_cons_succ, List.getElem?_cons_zero]; rfl) (by kernel_rfl) (by kernel_rfl) (by kernel_rfl) (by intro _ _ _ h; exact h) (Or.inl ⟨by rfl, ?_⟩) hHeld ?_
      rotate_left 1
      · intro wq hSw
        try dsimp only at hSw
        go_simp
        try (with_reducible rfl)
      try simp only [Act.put, List.setIfInBounds_toArray, List.set_cons_zero, List.set_cons_succ]
      refine wpAnyH_take (i := 9) (v := ?_) (by simp only [List.getElem?_toArray, List.getElem?_cons_succ, List.getElem?_cons_zero]; rfl) (by kernel_rfl) (by kernel_rfl) (by kernel_rfl) (by intro _ _ _ h; exact h) (Or.inl ⟨by rfl, ?_⟩) hHeld ?_
      rotate_left 1
      · intro wq hSw
        try dsimp only at hSw
        go_simp
        try (with_reducible rfl)
      try simp only [Act.put, List.setIfInBounds_toArray, List.set_cons_zero, List.set_cons_succ]
      refine wpAnyH_take (i := 10) (v := ?_) (by simp only [List.getElem?_toArray, List.getElem?_cons_succ, List.getElem?_cons_zero]; rfl) (by kernel_rfl) (by kernel_rfl) (by kernel_rfl) (by intro _ _ _ h; exact h) (Or.inl ⟨by rfl, ?_⟩) hHeld ?_
      rotate_left 1
      · intro wq hSw
        try dsimp only at hSw
        obtain ⟨x0, x1, x2, x3, x4, x5, x6, x7, _⟩ := (h.blk.but hSw (by omega)).eight
        go_simp
        try (with_reducible rfl)
      try simp only [Act.put, List.setIfInBounds_toArray, List.set_cons_zero, List.set_cons_succ]
      refine wpAnyH_ready (rs := [11]) (by kernel_rfl) (by simp) ?_
      refine AllReadyH.cons (by simp only [List.getElem?_toArray, List.getElem?_cons_succ, List.getElem?_cons_zero]; rfl) (fun K hK => ?_) AllReadyH.nil
      have hC := zAppend_any st rs la size Ad nd cd b Ai l.length ci l wd (hS.but hHeld hAi) (h.sl.but hHeld hAd) (by omega) (by omega)
      go_simp
      refine hC.mono ?_
      clear hC
      rintro e w2 ⟨A2, n2, c2, rfl, N2, b3⟩
      go_wp2_with fail
      refine hK.out _ _ (hHeld.call b3) (fun hHeld => ?_)
      clear hK K
      try dsimp only at hHeld
      try simp only [Act.put, List.setIfInBounds_toArray, List.set_cons_zero, List.set_cons_succ]
      refine wpAnyH_take (i := 12) (v := ?_) (by simp only [List.getElem?_toArray, List.getElem?_cons_succ, List.getElem?_cons_zero]; rfl) (by kernel_rfl) (by kernel_rfl) (by kernel_rfl) (by intro _ _ _ h; exact h) (Or.inl ⟨by rfl, ?_⟩) hHeld ?_
      rotate_left 1
      · intro wq hSw
        try dsimp only at hSw
        go_simp
        try (with_reducible rfl)
      try simp only [Act.put, List.setIfInBounds_toArray, List.set_cons_zero, List.set_cons_succ]
      refine wpAnyH_take (i := 13) (v := ?_) (by simp only [List.getElem?_toArray, List.getElem?_cons_succ, List.getElem?_cons_zero]; rfl) (by kernel_rfl) (by kernel_rfl) (by kernel_rfl) (by intro _ _ _ h; exact h) (Or.inl ⟨by rfl, ?_⟩) hHeld ?_
      rotate_left 1
      · intro wq hSw
        try dsimp only at hSw
        go_simp
        try (with_reducible rfl)
      try simp only [Act.put, List.setIfInBounds_toArray, List.set_cons_zero, List.set_cons_succ]
      refine wpAnyH_ready (rs := [14]) (by kernel_rfl) (by simp) ?_
      refine AllReadyH.cons (by simp only [List.getElem?_toArray, List.getElem?_cons_succ, List.getElem?_cons_zero]; rfl) (fun K hK => ?_) AllReadyH.nil
      have bz : Below w.heap.size w w2 := (b2.trans (bd.mono (by omega))).trans (b3.mono (by have := bd.size; omega))
      have B2 := (B1.below bd (by omega)).under b3
      obtain ⟨r0, r1, r2, r3, g0, g1, g2, g3⟩ := B2.four
      go_simp
      refine hK.out _ _ ((((hHeld.set 0 _).set 1 _).set 2 _).set 3 _) (fun hHeld => ?_)
      clear hK K
      try dsimp only at hHeld
      try simp only [Act.put, List.setIfInBounds_toArray, List.set_cons_zero, List.set_cons_succ]
      refine wpAnyH_take (i := 15) (v := ?_) (by simp only [List.getElem?_toArray, List.getElem?_cons_succ, List.getElem?_cons_zero]; rfl) (by kernel_rfl) (by kernel_rfl) (by kernel_rfl) (by intro _ _ _ h; exact h) (Or.inl ⟨by rfl, ?_⟩) hHeld ?_
      rotate_left 1
      · intro wq hSw
        try dsimp only at hSw
        go_simp
        try (with_reducible rfl)
      try simp only [Act.put, List.setIfInBounds_toArray, List.set_cons_zero, List.set_cons_succ]
      refine wpAnyH_done (by kernel_rfl) ?_ _
      go_wp2
      try simp only [Exit.inBlock, Exit.then]
      have hH2 : HH = ⟨appSt st rs l.length la size nd, rs, la, appDa st rs l.length la size nd l b⟩ := by rw [hHH.out, apH, hno.out, hbl.out]; rfl
      have hE2 : EE = appErrF st rs l.length la size nd := by rw [hEE.out, apE, hno.out, hbl.out]; rfl
      rw [hH2, hE2]
      exact ret_zew (⟨appSt st rs l.length la size nd, rs, la, appDa st rs l.length la size nd l b⟩ : Zp) rfl rfl rfl B2 N2 (by have := bd.size; omega) (by omega) bz


theorem dappend_any {BB kw g : Nat} {size lf dn : Int} {dw : Bool} {zs : List Zp} {kd N : Int} {Ad : Option Addr} {nd cd : Nat} {b : List UInt8} (w : World) (h : Wk BB kw g w size lf dn dw zs kd N Ad nd cd b) (hsm : Sm zs) (hnd : nd ≤ 10000) :
    Calls Tryd.prog 73 #[.pointer (some ⟨kw, 0, none⟩)] w (WkPost BB kw w size lf dn dw (chgZs zs N (apH size (openF zs) b) (apE size (openF zs) b)) kd N Ad nd cd b (chgEr zs N (apE size (openF zs) b))) := by
  have B0 := Blk.new w #[.pointer (some ⟨kw, 0, none⟩)] 89
  have hlt := h.lt
  have b0 := (Below.refl w.heap.size w).alloc (Nat.le_refl _) (.cells #[.pointer (some ⟨kw, 0, none⟩)] 89)
  have h1 := h.alloc (.cells #[.pointer (some ⟨kw, 0, none⟩)] 89)
  have hbl : Hid (b.length = nd) := h.sl.len8
  go_enter Tryd.func73, Tryd.ntmps73
  go_wp2_with fail
  generalize w.alloc (.cells #[.pointer (some ⟨kw, 0, none⟩)] 89) = w0 at *
  refine (dchange_any 83 #[.pointer (some ⟨w.heap.size, 0, none⟩)] (apH size (openF zs) b) (apE size (openF zs) b) w0 h1 hsm.1 (fun _ _ => by kernel_rfl) (fun z Ai ci hz hS => dappend1_any z Ai ci w.heap.size w0 h1 hsm hS (hsm.at_ hz) B0 hnd hbl.out)).mono ?_
  rintro e w1 ⟨rfl, h2, b1⟩
  go_wp2
  go_ret
  exact ⟨rfl, h2, (b0.mono (Nat.le_of_lt hlt)).trans b1⟩

theorem mapIdx_fs (zs : List Zp) : zs.mapIdx (fun _ z => fsZ z) = zs.map fsZ := by
  apply List.ext_getElem?
  intro i
  rw [List.getElem?_mapIdx, List.getElem?_map]

set_option maxHeartbeats 1000000 in
theorem dflush_any {BB kw g : Nat} {size lf dn : Int} {dw : Bool} {zs : List Zp} {kd N : Int} {Ad : Option Addr} {nd cd : Nat} {b : List UInt8} (w : World) (h : Wk BB kw g w size lf dn dw zs kd N Ad nd cd b) (hsm : Sm zs) :
    Calls Tryd.prog 77 #[.pointer (some ⟨kw, 0, none⟩)] w (WkPost BB kw w size lf dn dw (zs.map fsZ) kd N Ad nd cd b 0) := by
  obtain ⟨p0, p1, p2, p3, p4, p5, p6, p7, _⟩ := h.blk.eight
  go_enter Tryd.func77, Tryd.ntmps77
  go_wp2_with fail
  refine (deach_any 88 #[] (fun _ z => fsZ z) size lf dn dw (some ⟨g, 0, none⟩) zs.length zs.length zs w (h.zf.toZs hsm.1) hsm (fun _ _ _ => by kernel_rfl) (fun i z Ai ci w' hz _ hS => dflush1_any i z Ai ci w' hS (by have := hsm.at_ hz; omega))).mono ?_
  rw [mapIdx_fs]
  rintro e w1 ⟨g1, rfl, Z1, b1⟩
  have h1 := h.under b1
  have hkl := h.blk.lt
  have hlt := h.lt
  have hls : Hid (zs.length = (zs.map fsZ).length) := (List.length_map _).symm
  obtain ⟨q0, q1, q2, q3, q4, q5, q6, q7, f0, f1, f2, f3, f4, f5, f6, f7⟩ := h1.blk.eight
  go_wp2
  go_ret
  have b2 : Below BB w w1 := b1.mono (Nat.le_of_lt hlt)
  have hk := h.at_
  refine ⟨rfl, ⟨g1, ?_, ?_, ?_, h.low, h.at_⟩, ((((b2.setCell hk _).setCell hk _).setCell hk _).setCell hk _).setCell hk _⟩
  · rw [← hls.out]
    exact ((((h1.blk.set 0 _).set 1 _).set 2 _).set 3 _).set 4 _
  · have Z2 : Zf (fun b => BB ≤ b ∧ b ≠ kw) 56 w1 g1 (zs.map fsZ) := Z1.toZf (fun b _ hb => ⟨by omega, by omega⟩)
    exact ((((Z2.far (a := ⟨kw, 0, none⟩) (fun h => h.2 rfl) _).far (a := ⟨kw, 1, none⟩) (fun h => h.2 rfl) _).far (a := ⟨kw, 2, none⟩) (fun h => h.2 rfl) _).far (a := ⟨kw, 3, none⟩) (fun h => h.2 rfl) _).far (a := ⟨kw, 4, none⟩) (fun h => h.2 rfl) _
  · have hl : ∀ i : Nat, 0 < nd → ∀ ad, Ad = some ad → ad.block ≠ (⟨kw, i, none⟩ : Addr).block := fun i hn ad e hh => by
      have h5 := h.low hn ad e
      have h6 : ad.block = kw := hh
      omega
    exact ((((h1.sl.farz (hl 0) _).farz (hl 1) _).farz (hl 2) _).farz (hl 3) _).farz (hl 4) _
end Go.Proofs.YtnejiclghnigiaaDoor
