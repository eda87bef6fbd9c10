/-
  ExtmapParts: the walk (written by gen_emparts.py).
-/
import Derived.Test.YtepaojegcaapfaaEmAwake
import Derived.Test.YtepaojegcaapfaaEmMath2
import Derived.Test.YtepaojegcaapfaaArgs
import Derived.Test.YtepaojegcaapfaaJoin
import Derived.Test.YtepaojegcaapfaaEm8
namespace Go.Wag
open Go.RowKit
set_option linter.unusedVariables false
theorem mp_tmod {a d : Int} (ha : 0 ≤ a) (hd : 0 < d) : 0 ≤ Int.tmod a d ∧ Int.tmod a d < d := by
  rw [Int.tmod_eq_emod_of_nonneg ha]
  exact ⟨Int.emod_nonneg a (by omega), Int.emod_lt_of_pos a hd⟩
/-- What ExtmapParts reckons. -/
theorem mp_nums {b i j q : Int} (h1 : 2 ≤ b) (h2 : b ≤ 64) (hi : 0 ≤ i) (hj : 0 ≤ j) (hq : 0 ≤ q) : ∃ d0 fr d1 d2 r1 n d3 r2 m s1 s2 : Int, wrap64 (b - 1) = d0 ∧ ¬ d0 = 0 ∧ Int.tmod i d0 = fr ∧ wrap64 (b - fr) = d1 ∧ wrap64 (d1 - 1) = d2 ∧ ¬ d2 = 0 ∧ Int.tmod j d2 = r1 ∧ wrap64 (1 + r1) = n ∧ wrap64 (d1 - n) = d3 ∧ ¬ d3 = 0 ∧ Int.tmod q d3 = r2 ∧ wrap64 (1 + r2) = m ∧ wrap64 (fr + n) = s1 ∧ wrap64 (n + m) = s2 ∧
    (0 ≤ fr ∧ 1 ≤ n ∧ 1 ≤ m ∧ fr + n + m ≤ b ∧ s1 = fr + n ∧ s2 = n + m) := by
  obtain ⟨a1, a2⟩ := mp_tmod hi (show 0 < b - 1 by omega)
  generalize hq1 : Int.tmod i (b - 1) = fr at a1 a2
  obtain ⟨b1, b2⟩ := mp_tmod hj (show 0 < b - fr - 1 by omega)
  generalize hq2 : Int.tmod j (b - fr - 1) = r1 at b1 b2
  obtain ⟨c1, c2⟩ := mp_tmod hq (show 0 < b - fr - (1 + r1) by omega)
  generalize hq3 : Int.tmod q (b - fr - (1 + r1)) = r2 at c1 c2
  refine ⟨b - 1, fr, b - fr, b - fr - 1, r1, 1 + r1, b - fr - (1 + r1), r2, 1 + r2, fr + (1 + r1), 1 + r1 + (1 + r2), ?_, by omega, hq1, ?_, ?_, by omega, hq2, ?_, ?_, by omega, hq3, ?_, ?_, ?_, by omega, by omega, by omega, by omega, rfl, rfl⟩
  all_goals (unfold wrap64; omega)

theorem run_cut05 {P : Program} (t : TypeId) (e : TypeId) (ht : P.underlying t = some (.slice (P.elem t))) (he : P.elem t = e) (hsz : (P.info? e).map (·.size) = some 5) (A : Option Addr) (n c : Nat) (kh : IntKind) (M : Int) (m : Nat) (hM : M = m) (hm : m ≤ c) (w : World) :
    (Instr.slice t (.slice A n c) none (some (.int kh M)) none).run P w = .ok (.slice A m c) w := by
  subst hM he
  obtain ⟨i, hi, hs⟩ := Option.map_eq_some_iff.1 hsz
  rw [run_slice_h w t A n c ht kh m (by omega) (by omega)]
  cases A with
  | none => simp [sizeOf, typeInfo, hi, hs, sliced]
  | some ad =>
    have : ad.add 0 = ad := by unfold Addr.add; split <;> simp_all
    simp [sizeOf, typeInfo, hi, hs, sliced, this]
theorem rq_empty {F : Nat → Prop} {B : Nat} {t : TypeId} (w : World) (hB : B ≤ w.heap.size) : Rq extE F B t (w.alloc (.cells #[] t)) (some ⟨w.heap.size, 0, none⟩) 0 0 [] :=
  ⟨rfl, [], ⟨by simp, .inr ⟨w.heap.size, 0, #[], rfl, hB, heap_alloc_new w _, Nat.le_refl _, by simp only [maxLen]; omega, by simp, by simp⟩⟩, fun i z h => by simp at h⟩
theorem sl_far2 {w : World} {A : Option Addr} {n c : Nat} {xs : List Value} (h : Sl w A n c xs) {a : Addr} (ha : 0 < n → ∀ ad, A = some ad → ad.block ≠ a.block) (u : Value) : Sl (w.setCell a u) A n c xs :=
  ⟨h.len, h.cap, h.big, fun hn => by
    obtain ⟨ad, e, hb, hc⟩ := (h.far (ha hn) u).cells hn
    exact ⟨ad, e, hb, hc⟩⟩
theorem mp_last {l : List Xp} (h : l ≠ []) : ∃ us x, l = us ++ [x] := ⟨_, _, (List.dropLast_concat_getLast h).symm⟩
theorem mp_first {l : List Xp} (h : l ≠ []) : ∃ y vs, l = y :: vs := by
  cases l with
  | nil => exact absurd rfl h
  | cons y vs => exact ⟨y, vs, rfl⟩
/-- The parts of a map within two stretches, taken apart. -/
theorem mp_facts {b : Int} {l : List Xp} (hl : mapB b l = true) {f n m s1 s2 : Int} (hf : 0 ≤ f) (hn : 1 ≤ n) (hm : 1 ≤ m) (hb : f + n + m ≤ b) (e1 : s1 = f + n) (e2 : s2 = n + m) :
    ∃ us x y vs, mparts l f n = us ++ [x] ∧ mparts l s1 m = y :: vs ∧ x.la ≤ 9223372036854775807 ∧ y.la ≤ 9223372036854775807 ∧ (us ++ [x]).length ≤ l.length ∧ (y :: vs).length ≤ l.length ∧
      (∀ z, xjoin x y = some z → mparts l f s2 = us ++ [z] ++ vs) ∧ (xjoin x y = none → mparts l f s2 = us ++ [x] ++ y :: vs) := by
  subst e1 e2
  obtain ⟨b1, b2, r, _⟩ := (mapB_iff _ _).1 hl
  obtain ⟨us, x, hx⟩ := mp_last (mrun_ne (mrun_part r (a := f) (n := n) hf b2 (by omega) (by omega)) (by omega))
  obtain ⟨y, vs, hy⟩ := mp_first (mrun_ne (mrun_part r (a := f + n) (n := m) (by omega) b2 (by omega) (by omega)) (by omega))
  obtain ⟨t1, t2⟩ := mparts_two hl hf hn hm hb hx hy
  have l1 := mparts_len l f n
  have l2 := mparts_len l (f + n) m
  rw [hx] at l1
  rw [hy] at l2
  refine ⟨us, x, y, vs, hx, hy, mparts_la (xs := l) (a := f) (m := n) x (by rw [hx]; simp), mparts_la (xs := l) (a := f + n) (m := m) y (by rw [hy]; simp), l1, l2, fun z hz => ?_, fun hz => ?_⟩
  · unfold xjoin at hz
    split at hz
    · rename_i hj
      cases hz
      exact t1 hj
    · cases hz
  · unfold xjoin at hz
    split at hz
    · cases hz
    · rename_i hj
      exact t2 (by simpa using hj)
end Go.Wag
namespace Go.Proofs.Ytepaojegcaapfaa
open Go.RowKit Go.Wag
set_option linter.unusedVariables false
set_option linter.unusedSimpArgs false
set_option maxRecDepth 100000 in
set_option maxHeartbeats 16000000 in
theorem parts8_core (b : Int) (xs : List Xp) (A : Option Addr) (n c : Nat) (i j q : Int) (w : World) (h : Rs extE (fun z => z < w.heap.size) w A n c xs) (hla : ∀ x ∈ xs, x.la ≤ 9223372036854775807) (hi : 0 ≤ i ∧ i ≤ 255) (hj : 0 ≤ j ∧ j ≤ 255) (hq : 0 ≤ q ∧ q ≤ 255) :
    Calls Try.prog 5 #[.int .i64 b, .slice A n c, .int .u8 i, .int .u8 j, .int .u8 q] w (AwakePost w) := by
  have HN : Hid (xs.length = n) := h.len
  have hcap := h.cap
  have hbig := h.big
  obtain ⟨iX, hiX, hzX, hsX, hbX⟩ := iExt
  go_enter Try.func5, Try.ntmps5
  go_wp2_with fail
  refine (awake8_any w).mono ?_
  rintro e w1 ⟨rfl, bb⟩
  go_wp2_with fail
  refine (few_any xs A n c w1 (h.below bb)).mono ?_
  rintro e w2 ⟨fr, rfl, hfew, rfl⟩
  cases fr
  · go_wp2
    go_ret
    exact ⟨rfl, bb⟩
  have hn70 := (hfew rfl).1
  clear hfew
  have hC := mCheck_any b xs A n c w1 (h.below bb) hla (by omega)
  cases hm : mapB b xs
  · rw [hm] at hC
    go_wp2_with fail
    refine hC.mono ?_
    rintro e w2 ⟨rfl, b2⟩
    go_wp2
    go_ret
    exact ⟨rfl, bb.trans (b2.mono bb.size)⟩
  rw [hm] at hC
  by_cases hb2 : b < 2
  · go_wp2_with fail
    refine hC.mono ?_
    rintro e w2 ⟨rfl, b2⟩
    go_wp2
    go_ret
    exact ⟨rfl, bb.trans (b2.mono bb.size)⟩
  obtain ⟨hb1, hb64, hrun, _⟩ := (mapB_iff _ _).1 hm
  obtain ⟨d0, fr, d1, d2, r1, nn, d3, r2, mm, s1, s2, t1, t2, t3, t4, t5, t6, t7, t8, t9, t10, t11, t12, t13, t14, p1, p2, p3, p4, p5, p6⟩ := mp_nums (show 2 ≤ b by omega) hb64 hi.1 hj.1 hq.1
  obtain ⟨us, x, y, vs, f1, f2, hxla, hyla, hl1, hl2, f3, f4⟩ := mp_facts hm p1 p2 p3 p4 p5 p6
  have hlb : fr ≤ 9223372036854775807 := by omega
  have hls : s1 ≤ 9223372036854775807 := by omega
  have g1 := fun (W : World) (hW : Rs extE (fun z => z < w.heap.size) W A n c xs) => mRange_any b xs A n c fr nn W hlb hW hla (by omega)
  have g2 := fun (W : World) (hW : Rs extE (fun z => z < w.heap.size) W A n c xs) => mRange_any b xs A n c s1 mm W hls hW hla (by omega)
  have g3 := fun (W : World) (hW : Rs extE (fun z => z < w.heap.size) W A n c xs) => mRange_any b xs A n c fr s2 W hlb hW hla (by omega)
  simp only [hm, Bool.true_eq_false, if_false, if_pos (show 0 ≤ fr ∧ 1 ≤ nn ∧ nn ≤ b - fr by omega), f1] at g1
  simp only [hm, Bool.true_eq_false, if_false, if_pos (show 0 ≤ s1 ∧ 1 ≤ mm ∧ mm ≤ b - s1 by omega), f2] at g2
  simp only [hm, Bool.true_eq_false, if_false, if_pos (show 0 ≤ fr ∧ 1 ≤ s2 ∧ s2 ≤ b - fr by omega)] at g3
  replace hl1 : us.length + 1 ≤ n := by rw [List.length_append] at hl1; have := HN.out; simp at hl1; omega
  replace hl2 : vs.length + 1 ≤ n := by rw [List.length_cons] at hl2; have := HN.out; omega
  have hi1 := hi.1
  have hi2 := hi.2
  have hj1 := hj.1
  have hj2 := hj.2
  have hq1' := hq.1
  have hq2' := hq.2
  clear hi hj hq p1 p2 p3 p4 p5 p6 hb1 hb64 hrun f1 f2 hlb hls
  replace f3 := Lib.hid f3
  replace f4 := Lib.hid f4
  replace hm := Lib.hid hm
  replace hxla := Lib.hid hxla
  replace hyla := Lib.hid hyla
  go_wp2_with fail
  refine hC.mono ?_
  clear hC
  rintro e w2 ⟨rfl, b2⟩
  replace bb := bb.trans (b2.mono bb.size)
  clear b2
  replace h := h.below bb
  have hC0 := g1 w2 h
  clear g1
  go_wp2_with fail
  have hC := hC0
  refine hC.mono ?_
  clear hC
  rintro e v1 ⟨L1, n1, c1, hm1, rfl, S1, b1⟩
  replace h := h.below b1
  replace bb := bb.trans (b1.mono bb.size)
  clear hC0
  have hC0 := g2 v1 h
  clear g2
  go_wp2_with fail
  have hC := hC0
  refine hC.mono ?_
  clear hC
  rintro e v2 ⟨L2, n2, c2, hm2, rfl, S2, b2⟩
  replace h := h.below b2
  replace S1 := S1.below b2
  replace bb := bb.trans (b2.mono bb.size)
  clear hC0
  have hC0 := g3 v2 h
  clear g3
  go_wp2_with fail
  have hC := hC0
  refine hC.mono ?_
  clear hC
  rintro e v3 ⟨L3, n3, c3, hm3, rfl, S3, b3⟩
  replace h := h.below b3
  replace S1 := S1.below b3
  replace S2 := S2.below b3
  replace bb := bb.trans (b3.mono bb.size)
  clear hC0
  obtain ⟨k1, hk1⟩ : ∃ k, us.length = k := ⟨_, rfl⟩
  obtain ⟨k2, hk2⟩ : ∃ k, vs.length = k := ⟨_, rfl⟩
  rw [hk1] at hl1
  rw [hk2] at hl2
  have e1 : n1 = k1 + 1 := by rw [← hm1.out, List.length_append, hk1]; rfl
  have e2 : n2 = k2 + 1 := by rw [← hm2.out, List.length_cons, hk2]
  have z1 : ((n1 : Int) == 0) = false := by simp; omega
  have z2 : ((n2 : Int) == 0) = false := by simp; omega
  have hn1 : 0 < n1 := by omega
  have hn2 : 0 < n2 := by omega
  have hn1b : n1 ≤ 70 := by omega
  have hn2b : n2 ≤ 70 := by omega
  replace e1 := Lib.hid e1
  replace e2 := Lib.hid e2
  replace hk1 := Lib.hid hk1
  replace hk2 := Lib.hid hk2
  clear hm1 hm2 t1 t2 t3 t4 t5 t6 t7 t8 t9 t10 t11 t12 t13 t14
  replace S1 := S1.imp (F' := fun z => z < v3.heap.size) (fun z hz _ => hz)
  replace S2 := S2.imp (F' := fun z => z < v3.heap.size) (fun z hz _ => hz)
  replace S3 := S3.imp (F' := fun z => z < v3.heap.size) (fun z hz _ => hz)
  have hcap1 := S1.cap
  have hbig1 := S1.big
  have hcap2 := S2.cap
  have hbig2 := S2.big
  have O0 := rq_empty (F := fun _ => True) (B := v3.heap.size) (t := 38) v3 (Nat.le_refl _)
  have a1 := (Below.refl v3.heap.size v3).alloc (Nat.le_refl _) (.cells #[] 38)
  obtain ⟨A5, c5, w5, hr, R5, gr, hlies⟩ := O0.appRs (P := Try.prog) (T := 22) (ty := 22) Try.underlying22 hiX hzX hsX hbX rfl a1.size ((S1.imp (F' := fun z => z ≠ v3.heap.size) (fun z hz _ => by omega)).below a1 |>.imp (fun z hz hh => ⟨trivial, fun e => hh (Option.some.inj e).symm⟩)) (by omega) (by omega)
  have b5 := a1.grown gr a1.size (fun z hz => by have : some v3.heap.size = some z := hz; cases this; exact Nat.le_refl _)
  clear O0 a1 gr hlies
  rw [List.nil_append, Nat.zero_add] at R5
  rw [Nat.zero_add] at hr
  go_wp2_with (at_builtin; refine wpList_run rfl (.tmp 109) (.tmp 110) 22 rfl rfl rfl hr ?_; intro _)
  clear hr
  have hb03 := bb.size
  replace bb := bb.trans (b5.mono bb.size)
  replace h := h.below b5
  replace S1 := S1.below b5
  replace S2 := S2.below b5
  replace S3 := S3.below b5
  have h35 := b5.size
  clear b5
  have hx0 : (us ++ [x])[n1 - 1]? = some x := by rw [e1.out, Nat.add_sub_cancel, List.getElem?_append_right (by have := hk1.out; omega)]; have := hk1.out; subst this; simp
  obtain ⟨gx, ox, x', Ax, cx, eX, hFx, hgx, hzx, x0', x1', x2', x3', x4', hSx, hAx⟩ := S1.ext_at (show n1 - 1 < n1 by omega)
  obtain rfl : x' = x := Option.some.inj (hzx.symm.trans hx0)
  obtain ⟨gy, oy, y', Ay, cy, eY, hFy, hgy, hzy, y0', y1', y2', y3', y4', hSy, hAy⟩ := S2.ext_at hn2
  obtain rfl : y' = y := (Option.some.inj hzy).symm
  subst eX eY
  simp only [Nat.zero_mul, Nat.add_zero] at y0' y1' y2' y3' y4'
  have hnx : ((n1 - 1 : Nat) : Int) = (n1 : Int) - 1 := by omega
  obtain ⟨mx, hmx⟩ : ∃ k, x'.l.length = k := ⟨_, rfl⟩
  obtain ⟨my, hmy⟩ : ∃ k, y'.l.length = k := ⟨_, rfl⟩
  rw [hmx] at x4' hSx
  rw [hmy] at y4' hSy
  replace hmx := Lib.hid hmx
  replace hmy := Lib.hid hmy
  clear hzx hzy hx0 hAx hAy
  obtain ⟨p, hp⟩ : ∃ k, n1 - 1 = k := ⟨_, rfl⟩
  rw [hp] at x0' x1' x2' x3' x4'
  replace hp := Lib.hid hp
  have hlp : p < n1 := by have := hp.out; omega
  have hjn := fun (W : World) (s1 : Sl W Ax mx cx (x'.l.map v8)) (s2 : Sl W Ay my cy (y'.l.map v8)) => EPost.eq (eJoin_any x'.la x'.n x'.k x'.g Ax mx cx x'.l y'.la y'.n y'.k y'.g Ay my cy y'.l W hxla.out hyla.out s1 s2) rfl rfl
  obtain ⟨er, her⟩ : ∃ v, errOf (xjoin x' y') 70 = v := ⟨_, rfl⟩
  obtain ⟨z, hz⟩ : ∃ v, (xjoin x' y').getD x0 = v := ⟨_, rfl⟩
  rw [show (⟨x'.la, x'.n, x'.k, x'.g, x'.l⟩ : Xp) = x' from rfl, show (⟨y'.la, y'.n, y'.k, y'.g, y'.l⟩ : Xp) = y' from rfl, her, hz] at hjn
  replace her := Lib.hid her
  replace hz := Lib.hid hz
  refine region_join (α := Nat → Option Addr → Nat → Nat → Act) (R := fun T a w' => ∃ (kv : Nat) (A9 : Option Addr) (m9 c9 : Nat), a = T kv A9 m9 c9 ∧ Hid (m9 = z.l.length) ∧ Blk w' kv #[.int .i64 z.la, .int .i64 z.n, .int .i64 z.k, .int .i64 z.g, .slice A9 m9 c9] 38 ∧ Sl w' A9 m9 c9 (z.l.map v8) ∧ Below w5.heap.size w5 w') ?T6 ?body6 ?rest6
  case body6 =>
    refine wp_region_held_drew (S := fun w' => Below w5.heap.size w5 w') (by kernel_rfl) (Below.refl _ _).drew (fun hHeld => ?_)
    try dsimp only at hHeld
    generalize w5.drew = wd at *
    try simp only [Act.put, List.setIfInBounds_toArray, List.set_cons_zero, List.set_cons_succ]
    refine wpAnyH_take (i := 0) (v := ?_) (by simp only [List.getElem?_toArray, List.getElem?_cons_zero]; rfl) (by kernel_rfl) (by kernel_rfl) (by kernel_rfl) (by intro _ _ _ h; exact nomatch h.1) (Or.inl ⟨by rfl, ?_⟩) hHeld ?_
    rotate_left 1
    · intro wq hSw
      try dsimp only at hSw
      go_simp
      try (with_reducible rfl)
    try simp only [Act.put, List.setIfInBounds_toArray, List.set_cons_zero, List.set_cons_succ]
    refine wpAnyH_take (i := 1) (v := ?_) (by simp only [List.getElem?_toArray, List.getElem?_cons_succ, List.getElem?_cons_zero]; rfl) (by kernel_rfl) (by kernel_rfl) (by kernel_rfl) (by intro _ _ _ h; exact nomatch h.1) (Or.inl ⟨by rfl, ?_⟩) hHeld ?_
    rotate_left 1
    · intro wq hSw
      try dsimp only at hSw
      go_simp
      try (with_reducible rfl)
    try simp only [Act.put, List.setIfInBounds_toArray, List.set_cons_zero, List.set_cons_succ]
    refine wpAnyH_take (i := 2) (v := ?_) (by simp only [List.getElem?_toArray, List.getElem?_cons_succ, List.getElem?_cons_zero]; rfl) (by kernel_rfl) (by kernel_rfl) (by kernel_rfl) (by intro _ _ _ h; exact nomatch h.1) (Or.inl ⟨by rfl, ?_⟩) hHeld ?_
    rotate_left 1
    · intro wq hSw
      try dsimp only at hSw
      go_simp
      try (with_reducible rfl)
    try simp only [Act.put, List.setIfInBounds_toArray, List.set_cons_zero, List.set_cons_succ]
    refine wpAnyH_take (i := 3) (v := (.int .i64 (p : Int))) (by simp only [List.getElem?_toArray, List.getElem?_cons_succ, List.getElem?_cons_zero]; rfl) (by kernel_rfl) (by kernel_rfl) (by kernel_rfl) (by intro _ _ _ h; exact nomatch h.1) (Or.inl ⟨by rfl, ?_⟩) hHeld ?_
    · intro wq hSw
      try dsimp only at hSw
      go_simp
      rw [IntWalk.i64_left]
      unfold wrap64
      have := hp.out
      omega
    try simp only [Act.put, List.setIfInBounds_toArray, List.set_cons_zero, List.set_cons_succ]
    refine wpAnyH_take (i := 4) (v := ?_) (by simp only [List.getElem?_toArray, List.getElem?_cons_succ, List.getElem?_cons_zero]; rfl) (by kernel_rfl) (by kernel_rfl) (by kernel_rfl) (by intro _ _ _ h; exact nomatch h.1) (Or.inl ⟨by rfl, ?_⟩) hHeld ?_
    rotate_left 1
    · intro wq hSw
      try dsimp only at hSw
      go_simp
      try (with_reducible rfl)
    try simp only [Act.put, List.setIfInBounds_toArray, List.set_cons_zero, List.set_cons_succ]
    refine wpAnyH_take (i := 5) (v := ?_) (by simp only [List.getElem?_toArray, List.getElem?_cons_succ, List.getElem?_cons_zero]; rfl) (by kernel_rfl) (by kernel_rfl) (by kernel_rfl) (by intro _ _ _ h; exact nomatch h.1) (Or.inl ⟨by rfl, ?_⟩) hHeld ?_
    rotate_left 1
    · intro wq hSw
      try dsimp only at hSw
      have y0 := (hSw.cell hgx).trans x0'
      have y1 := (hSw.cell hgx).trans x1'
      have y2 := (hSw.cell hgx).trans x2'
      have y3 := (hSw.cell hgx).trans x3'
      have y4 := (hSw.cell hgx).trans x4'
      go_simp
      try (with_reducible rfl)
    try simp only [Act.put, List.setIfInBounds_toArray, List.set_cons_zero, List.set_cons_succ]
    refine wpAnyH_take (i := 6) (v := ?_) (by simp only [List.getElem?_toArray, List.getElem?_cons_succ, List.getElem?_cons_zero]; rfl) (by kernel_rfl) (by kernel_rfl) (by kernel_rfl) (by intro _ _ _ h; exact nomatch h.1) (Or.inl ⟨by rfl, ?_⟩) hHeld ?_
    rotate_left 1
    · intro wq hSw
      try dsimp only at hSw
      go_simp
      try (with_reducible rfl)
    try simp only [Act.put, List.setIfInBounds_toArray, List.set_cons_zero, List.set_cons_succ]
    refine wpAnyH_take (i := 7) (v := ?_) (by simp only [List.getElem?_toArray, List.getElem?_cons_succ, List.getElem?_cons_zero]; rfl) (by kernel_rfl) (by kernel_rfl) (by kernel_rfl) (by intro _ _ _ h; exact nomatch h.1) (Or.inl ⟨by rfl, ?_⟩) hHeld ?_
    rotate_left 1
    · intro wq hSw
      try dsimp only at hSw
      go_simp
      try (with_reducible rfl)
    try simp only [Act.put, List.setIfInBounds_toArray, List.set_cons_zero, List.set_cons_succ]
    refine wpAnyH_take (i := 8) (v := ?_) (by simp only [List.getElem?_toArray, List.getElem?_cons_succ, List.getElem?_cons_zero]; rfl) (by kernel_rfl) (by kernel_rfl) (by kernel_rfl) (by intro _ _ _ h; exact nomatch h.1) (Or.inl ⟨by rfl, ?_⟩) hHeld ?_
    rotate_left 1
    · intro wq hSw
      try dsimp only at hSw
      have y0 := (hSw.cell hgy).trans y0'
      have y1 := (hSw.cell hgy).trans y1'
      have y2 := (hSw.cell hgy).trans y2'
      have y3 := (hSw.cell hgy).trans y3'
      have y4 := (hSw.cell hgy).trans y4'
      go_simp
      try (with_reducible rfl)
    try simp only [Act.put, List.setIfInBounds_toArray, List.set_cons_zero, List.set_cons_succ]
    refine wpAnyH_ready (rs := [9, 13]) (by kernel_rfl) (by simp) ?_
    refine AllReadyH.cons (by simp only [List.getElem?_toArray, List.getElem?_cons_succ, List.getElem?_cons_zero]; rfl) (fun K hK => ?_) (AllReadyH.cons (by simp only [List.getElem?_toArray, List.getElem?_cons_succ, List.getElem?_cons_zero]; rfl) (fun K hK => ?_) AllReadyH.nil)
    · skip
      have hC := hjn wd (hSx.below hHeld) (hSy.below hHeld)
      go_simp
      refine hC.mono ?_
      clear hC
      rintro e w_9 ⟨A9, m9, c9, hm9, rfl, N9, b9⟩
      have bN := hHeld.trans (b9.mono hHeld.size)
      have s9 := N9.sl
      clear N9 b9
      go_wp2_with fail
      refine hK.out _ _ (bN) (fun hHeld => ?_)
      clear hK K
      try dsimp only at hHeld
      clear bN
      try simp only [Act.put, List.setIfInBounds_toArray, List.set_cons_zero, List.set_cons_succ]
      refine wpAnyH_take (i := 10) (v := ?_) (by simp only [List.getElem?_toArray, List.getElem?_cons_succ, List.getElem?_cons_zero]; rfl) (by kernel_rfl) (by kernel_rfl) (by kernel_rfl) (by intro _ _ _ h; exact nomatch h.1) (Or.inl ⟨by rfl, ?_⟩) hHeld ?_
      rotate_left 1
      · intro wq hSw
        try dsimp only at hSw
        go_simp
        try (with_reducible rfl)
      try simp only [Act.put, List.setIfInBounds_toArray, List.set_cons_zero, List.set_cons_succ]
      refine wpAnyH_take (i := 11) (v := ?_) (by simp only [List.getElem?_toArray, List.getElem?_cons_succ, List.getElem?_cons_zero]; rfl) (by kernel_rfl) (by kernel_rfl) (by kernel_rfl) (by intro _ _ _ h; exact nomatch h.1) (Or.inl ⟨by rfl, ?_⟩) hHeld ?_
      rotate_left 1
      · intro wq hSw
        try dsimp only at hSw
        go_simp
        try (with_reducible rfl)
      try simp only [Act.put, List.setIfInBounds_toArray, List.set_cons_zero, List.set_cons_succ]
      refine wpAnyH_take (i := 12) (v := ?_) (by simp only [List.getElem?_toArray, List.getElem?_cons_succ, List.getElem?_cons_zero]; rfl) (by kernel_rfl) (by kernel_rfl) (by kernel_rfl) (by intro _ _ _ h; exact nomatch h.1) (Or.inl ⟨by rfl, ?_⟩) hHeld ?_
      rotate_left 1
      · intro wq hSw
        try dsimp only at hSw
        go_simp
        try (with_reducible rfl)
      try simp only [Act.put, List.setIfInBounds_toArray, List.set_cons_zero, List.set_cons_succ]
      refine wpAnyH_ready (rs := [13]) (by kernel_rfl) (by simp) ?_
      refine AllReadyH.cons (by simp only [List.getElem?_toArray, List.getElem?_cons_succ, List.getElem?_cons_zero]; rfl) (fun K hK => ?_) AllReadyH.nil
      obtain ⟨kv, hkv⟩ : ∃ k, w_9.heap.size = k := ⟨_, rfl⟩
      go_simp
      try simp only [hkv]
      have V := Blk.new w_9 #[.int .i64 0, .int .i64 0, .int .i64 0, .int .i64 0, .slice none 0 0] 38
      rw [hkv] at V
      have hcv : w5.heap.size ≤ kv := by rw [← hkv]; exact hHeld.size
      have bN := hHeld.alloc hHeld.size (.cells #[.int .i64 0, .int .i64 0, .int .i64 0, .int .i64 0, .slice none 0 0] 38)
      have hne9 : 0 < m9 → ∀ ad, A9 = some ad → ad.block ≠ kv := fun h0 ad e => by obtain ⟨ad', e', hb, _⟩ := s9.cells h0; cases e.symm.trans e'; omega
      replace s9 := s9.alloc (.cells #[.int .i64 0, .int .i64 0, .int .i64 0, .int .i64 0, .slice none 0 0] 38)
      clear hkv
      generalize w_9.alloc (.cells #[.int .i64 0, .int .i64 0, .int .i64 0, .int .i64 0, .slice none 0 0] 38) = w_9_13 at *
      refine hK.out _ _ (bN) (fun hHeld => ?_)
      clear hK K
      try dsimp only at hHeld
      clear bN
      try simp only [Act.put, List.setIfInBounds_toArray, List.set_cons_zero, List.set_cons_succ]
      refine wpAnyH_ready (rs := [14]) (by kernel_rfl) (by simp) ?_
      refine AllReadyH.cons (by simp only [List.getElem?_toArray, List.getElem?_cons_succ, List.getElem?_cons_zero]; rfl) (fun K hK => ?_) AllReadyH.nil
      skip
      obtain ⟨q0, q1, q2, q3, q4, i0', i1', i2', i3', i4'⟩ := V.five
      go_simp
      have V2 := (((((V.set 0 (.int .i64 z.la)).set 1 (.int .i64 z.n)).set 2 (.int .i64 z.k)).set 3 (.int .i64 z.g)).set 4 (.slice A9 m9 c9))
      simp only [List.setIfInBounds_toArray, List.set_cons_zero, List.set_cons_succ] at V2
      have bN := (((((hHeld.setCell (p := ⟨kv, 0, none⟩) hcv (.int .i64 z.la)).setCell (p := ⟨kv, 1, none⟩) hcv (.int .i64 z.n)).setCell (p := ⟨kv, 2, none⟩) hcv (.int .i64 z.k)).setCell (p := ⟨kv, 3, none⟩) hcv (.int .i64 z.g)).setCell (p := ⟨kv, 4, none⟩) hcv (.slice A9 m9 c9))
      have s2 := (sl_far2 (sl_far2 (sl_far2 (sl_far2 (sl_far2 s9 (a := ⟨kv, 0, none⟩) hne9 (.int .i64 z.la)) (a := ⟨kv, 1, none⟩) hne9 (.int .i64 z.n)) (a := ⟨kv, 2, none⟩) hne9 (.int .i64 z.k)) (a := ⟨kv, 3, none⟩) hne9 (.int .i64 z.g)) (a := ⟨kv, 4, none⟩) hne9 (.slice A9 m9 c9))
      clear q0 q1 q2 q3 q4 i0' i1' i2' i3' i4' V s9
      generalize (((((w_9_13.setCell ⟨kv, 0, none⟩ (.int .i64 z.la)).setCell ⟨kv, 1, none⟩ (.int .i64 z.n)).setCell ⟨kv, 2, none⟩ (.int .i64 z.k)).setCell ⟨kv, 3, none⟩ (.int .i64 z.g)).setCell ⟨kv, 4, none⟩ (.slice A9 m9 c9)) = w_9_13_14 at *
      have V := V2
      have s9 := s2
      clear V2 s2
      refine hK.out _ _ (bN) (fun hHeld => ?_)
      clear hK K
      try dsimp only at hHeld
      clear bN
      try simp only [Act.put, List.setIfInBounds_toArray, List.set_cons_zero, List.set_cons_succ]
      refine wpAnyH_take (i := 15) (v := ?_) (by simp only [List.getElem?_toArray, List.getElem?_cons_succ, List.getElem?_cons_zero]; rfl) (by kernel_rfl) (by kernel_rfl) (by kernel_rfl) (by intro _ _ _ h; exact nomatch h.1) (Or.inl ⟨by rfl, ?_⟩) hHeld ?_
      rotate_left 1
      · intro wq hSw
        try dsimp only at hSw
        go_simp
        try (with_reducible rfl)
      try simp only [Act.put, List.setIfInBounds_toArray, List.set_cons_zero, List.set_cons_succ]
      refine wpAnyH_done (by kernel_rfl) ?_ _
      refine ⟨rfl, kv, A9, m9, c9, ?_, hm9, V, s9, hHeld⟩
      with_reducible rfl
    · skip
      obtain ⟨kv, hkv⟩ : ∃ k, wd.heap.size = k := ⟨_, rfl⟩
      go_simp
      try simp only [hkv]
      have V := Blk.new wd #[.int .i64 0, .int .i64 0, .int .i64 0, .int .i64 0, .slice none 0 0] 38
      rw [hkv] at V
      have hcv : w5.heap.size ≤ kv := by rw [← hkv]; exact hHeld.size
      have bN := hHeld.alloc hHeld.size (.cells #[.int .i64 0, .int .i64 0, .int .i64 0, .int .i64 0, .slice none 0 0] 38)
      clear hkv
      generalize wd.alloc (.cells #[.int .i64 0, .int .i64 0, .int .i64 0, .int .i64 0, .slice none 0 0] 38) = w_13 at *
      refine hK.out _ _ (bN) (fun hHeld => ?_)
      clear hK K
      try dsimp only at hHeld
      clear bN
      try simp only [Act.put, List.setIfInBounds_toArray, List.set_cons_zero, List.set_cons_succ]
      refine wpAnyH_ready (rs := [9]) (by kernel_rfl) (by simp) ?_
      refine AllReadyH.cons (by simp only [List.getElem?_toArray, List.getElem?_cons_succ, List.getElem?_cons_zero]; rfl) (fun K hK => ?_) AllReadyH.nil
      have hC := hjn w_13 (hSx.below hHeld) (hSy.below hHeld)
      go_simp
      refine hC.mono ?_
      clear hC
      rintro e w_13_9 ⟨A9, m9, c9, hm9, rfl, N9, b9⟩
      have bN := hHeld.trans (b9.mono hHeld.size)
      have hvl := V.lt
      have hne9 : ∀ ad, A9 = some ad → ad.block ≠ kv := fun ad e => by have := N9.fr ad e; omega
      replace V := V.under b9
      have s9 := N9.sl
      clear N9 b9
      go_wp2_with fail
      refine hK.out _ _ (bN) (fun hHeld => ?_)
      clear hK K
      try dsimp only at hHeld
      clear bN
      try simp only [Act.put, List.setIfInBounds_toArray, List.set_cons_zero, List.set_cons_succ]
      refine wpAnyH_take (i := 10) (v := ?_) (by simp only [List.getElem?_toArray, List.getElem?_cons_succ, List.getElem?_cons_zero]; rfl) (by kernel_rfl) (by kernel_rfl) (by kernel_rfl) (by intro _ _ _ h; exact nomatch h.1) (Or.inl ⟨by rfl, ?_⟩) hHeld ?_
      rotate_left 1
      · intro wq hSw
        try dsimp only at hSw
        go_simp
        try (with_reducible rfl)
      try simp only [Act.put, List.setIfInBounds_toArray, List.set_cons_zero, List.set_cons_succ]
      refine wpAnyH_take (i := 11) (v := ?_) (by simp only [List.getElem?_toArray, List.getElem?_cons_succ, List.getElem?_cons_zero]; rfl) (by kernel_rfl) (by kernel_rfl) (by kernel_rfl) (by intro _ _ _ h; exact nomatch h.1) (Or.inl ⟨by rfl, ?_⟩) hHeld ?_
      rotate_left 1
      · intro wq hSw
        try dsimp only at hSw
        go_simp
        try (with_reducible rfl)
      try simp only [Act.put, List.setIfInBounds_toArray, List.set_cons_zero, List.set_cons_succ]
      refine wpAnyH_take (i := 12) (v := ?_) (by simp only [List.getElem?_toArray, List.getElem?_cons_succ, List.getElem?_cons_zero]; rfl) (by kernel_rfl) (by kernel_rfl) (by kernel_rfl) (by intro _ _ _ h; exact nomatch h.1) (Or.inl ⟨by rfl, ?_⟩) hHeld ?_
      rotate_left 1
      · intro wq hSw
        try dsimp only at hSw
        go_simp
        try (with_reducible rfl)
      try simp only [Act.put, List.setIfInBounds_toArray, List.set_cons_zero, List.set_cons_succ]
      refine wpAnyH_ready (rs := [14]) (by kernel_rfl) (by simp) ?_
      refine AllReadyH.cons (by simp only [List.getElem?_toArray, List.getElem?_cons_succ, List.getElem?_cons_zero]; rfl) (fun K hK => ?_) AllReadyH.nil
      have hne9 : 0 < m9 → ∀ ad, A9 = some ad → ad.block ≠ kv := fun _ => hne9
      obtain ⟨q0, q1, q2, q3, q4, i0', i1', i2', i3', i4'⟩ := V.five
      go_simp
      have V2 := (((((V.set 0 (.int .i64 z.la)).set 1 (.int .i64 z.n)).set 2 (.int .i64 z.k)).set 3 (.int .i64 z.g)).set 4 (.slice A9 m9 c9))
      simp only [List.setIfInBounds_toArray, List.set_cons_zero, List.set_cons_succ] at V2
      have bN := (((((hHeld.setCell (p := ⟨kv, 0, none⟩) hcv (.int .i64 z.la)).setCell (p := ⟨kv, 1, none⟩) hcv (.int .i64 z.n)).setCell (p := ⟨kv, 2, none⟩) hcv (.int .i64 z.k)).setCell (p := ⟨kv, 3, none⟩) hcv (.int .i64 z.g)).setCell (p := ⟨kv, 4, none⟩) hcv (.slice A9 m9 c9))
      have s2 := (sl_far2 (sl_far2 (sl_far2 (sl_far2 (sl_far2 s9 (a := ⟨kv, 0, none⟩) hne9 (.int .i64 z.la)) (a := ⟨kv, 1, none⟩) hne9 (.int .i64 z.n)) (a := ⟨kv, 2, none⟩) hne9 (.int .i64 z.k)) (a := ⟨kv, 3, none⟩) hne9 (.int .i64 z.g)) (a := ⟨kv, 4, none⟩) hne9 (.slice A9 m9 c9))
      clear q0 q1 q2 q3 q4 i0' i1' i2' i3' i4' V s9
      generalize (((((w_13_9.setCell ⟨kv, 0, none⟩ (.int .i64 z.la)).setCell ⟨kv, 1, none⟩ (.int .i64 z.n)).setCell ⟨kv, 2, none⟩ (.int .i64 z.k)).setCell ⟨kv, 3, none⟩ (.int .i64 z.g)).setCell ⟨kv, 4, none⟩ (.slice A9 m9 c9)) = w_13_9_14 at *
      have V := V2
      have s9 := s2
      clear V2 s2
      refine hK.out _ _ (bN) (fun hHeld => ?_)
      clear hK K
      try dsimp only at hHeld
      clear bN
      try simp only [Act.put, List.setIfInBounds_toArray, List.set_cons_zero, List.set_cons_succ]
      refine wpAnyH_take (i := 15) (v := ?_) (by simp only [List.getElem?_toArray, List.getElem?_cons_succ, List.getElem?_cons_zero]; rfl) (by kernel_rfl) (by kernel_rfl) (by kernel_rfl) (by intro _ _ _ h; exact nomatch h.1) (Or.inl ⟨by rfl, ?_⟩) hHeld ?_
      rotate_left 1
      · intro wq hSw
        try dsimp only at hSw
        go_simp
        try (with_reducible rfl)
      try simp only [Act.put, List.setIfInBounds_toArray, List.set_cons_zero, List.set_cons_succ]
      refine wpAnyH_done (by kernel_rfl) ?_ _
      refine ⟨rfl, kv, A9, m9, c9, ?_, hm9, V, s9, hHeld⟩
      with_reducible rfl
  rintro a w6 ⟨kv, A9, m9, c9, rfl, hm9, V, s9, b6⟩
  try dsimp only
  clear hjn x0' x1' x2' x3' x4' y0' y1' y2' y3' y4' hSx hSy
  replace bb := bb.trans (b6.mono bb.size)
  replace S1 := S1.below b6
  replace S2 := S2.below b6
  replace S3 := S3.below b6
  replace R5 := R5.below b6
  have h36 : v3.heap.size ≤ w6.heap.size := Nat.le_trans h35 b6.size
  clear b6 h
  have hro5 := R5.lt
  cases hjo : xjoin x' y'
  · rw [hjo] at her
    have her0 : (70 : Int) = er := her.out
    subst her0
    have f := f4.out hjo
    clear her hz f3 f4 hjo
    rw [f] at S3 hm3
    clear f
    obtain ⟨A6, c6, w7, hr, R6, gr, hlies⟩ := R5.appRs (P := Try.prog) (T := 22) (ty := 22) Try.underlying22 hiX hzX hsX hbX rfl h36 (S2.imp (F' := fun z => True ∧ (Value.slice A5 n1 c5).ownBlock ≠ some z) (fun z _ hz => ⟨trivial, fun e => by have := (hro5 z e).1; omega⟩)) (by omega) (by omega)
    have b7 := (Below.refl v3.heap.size w6).grown gr h36 (fun z hz => (hro5 z hz).1)
    have T3 := S3.keep b7.size (fun p _ hF => b7.cell hF)
    have T6 := (R6.imp (F' := fun _ => True) (fun _ _ _ => trivial)).toRs (fun _ _ _ => trivial)
    obtain rfl : n3 = n1 + n2 := by have := hm3.out; simp only [List.length_append, List.length_cons, List.length_nil, hk1.out, hk2.out] at this; have := e1.out; have := e2.out; omega
    skip
    replace bb := bb.trans (b7.mono hb03)
    clear gr hlies S1 S2 S3 R5 R6 b7 V s9
    go_wp2_with (at_builtin; refine wpList_run rfl (.tmp 140) (.tmp 141) 22 rfl rfl rfl hr ?_; intro _)
    refine (fAll_any (us ++ [x'] ++ y' :: vs) A6 (n1 + n2) c6 L3 c3 w7 T6 T3).mono ?_
    rintro e w8 ⟨rfl, b8⟩
    go_wp2
    go_ret
    exact ⟨rfl, bb.trans (b8.mono bb.size)⟩
  · rename_i z1
    rw [hjo] at her hz
    have her0 : (0 : Int) = er := her.out
    subst her0
    have hz0 := hz.out
    rw [Option.getD_some] at hz0
    obtain rfl : z = z1 := hz0.symm
    have f := f3.out _ hjo
    clear her hz f3 f4 hjo
    rw [f] at S3 hm3
    clear f R5 hro5
    go_wp2_with fail
    have U1 := S1.upto (m := p) (by omega)
    have U2 := S2.from5 (k := 1) (by omega)
    have etk : (us ++ [x']).take p = us := by have h1 := hp.out; have h2 := e1.out; have h3 := hk1.out; rw [List.take_append_of_le_length (by omega), List.take_of_length_le (by omega)]
    rw [etk] at U1
    rw [show (y' :: vs).drop 1 = vs from rfl] at U2
    have r05 : ∀ W : World, (Instr.slice 22 (.slice (some ⟨gx, ox, none⟩) n1 c1) none (some (.int .i64 (p : Int))) none).run Try.prog W = .ok (.slice (some ⟨gx, ox, none⟩) p c1) W := fun W => run_cut05 22 38 unXS elXS szEX _ n1 c1 .i64 p p rfl (by omega) W
    have r51 : ∀ W : World, (Instr.slice 22 (.slice (some ⟨gy, oy, none⟩) n2 c2) (some (.int .i64 1)) none none).run Try.prog W = .ok (.slice (cutA5 (some ⟨gy, oy, none⟩) c2 1) (n2 - 1) (c2 - 1)) W := fun W => run_cut5 22 38 unXS elXS szEX _ n2 c2 .i64 1 1 rfl (by omega) W
    generalize cutA5 (some ⟨gy, oy, none⟩) c2 1 = Ay1 at *
    obtain ⟨q2, hq2⟩ : ∃ k, n2 - 1 = k := ⟨_, rfl⟩
    obtain ⟨cy1, hcy1⟩ : ∃ k, c2 - 1 = k := ⟨_, rfl⟩
    simp only [hq2, hcy1] at r51 U2
    replace hq2 := Lib.hid hq2
    clear hcy1
    have hq2b : q2 ≤ 70 := by have := hq2.out; omega
    clear S1 S2
    refine region_join (α := Nat → Nat → Option Addr → Nat → Option Addr → Nat → Option Addr → Nat → Act) (R := fun T a w' => ∃ (ko k8 : Nat) (A6 : Option Addr) (c6 : Nat) (A9' : Option Addr) (c9' : Nat) (A8 : Option Addr) (c8 : Nat), a = T ko k8 A6 c6 A9' c9' A8 c8 ∧ Rs extE (fun _ => True) w' A8 (p + 1 + q2) c8 (us ++ [z] ++ vs) ∧ Below w6.heap.size w6 w') ?T7 ?body7 ?rest7
    case body7 =>
      refine wp_region_held_drew (S := fun w' => Below w6.heap.size w6 w') (by kernel_rfl) (Below.refl _ _).drew (fun hHeld => ?_)
      try dsimp only at hHeld
      generalize w6.drew = wd at *
      try simp only [Act.put, List.setIfInBounds_toArray, List.set_cons_zero, List.set_cons_succ]
      refine wpAnyH_take (i := 1) (v := ?_) (by simp only [List.getElem?_toArray, List.getElem?_cons_succ, List.getElem?_cons_zero]; rfl) (by kernel_rfl) (by kernel_rfl) (by kernel_rfl) (by intro _ _ _ h; exact nomatch h.1) (Or.inl ⟨by rfl, ?_⟩) hHeld ?_
      rotate_left 1
      · intro wq hSw
        try dsimp only at hSw
        go_simp
        try (with_reducible rfl)
      try simp only [Act.put, List.setIfInBounds_toArray, List.set_cons_zero, List.set_cons_succ]
      refine wpAnyH_take (i := 2) (v := ?_) (by simp only [List.getElem?_toArray, List.getElem?_cons_succ, List.getElem?_cons_zero]; rfl) (by kernel_rfl) (by kernel_rfl) (by kernel_rfl) (by intro _ _ _ h; exact nomatch h.1) (Or.inl ⟨by rfl, ?_⟩) hHeld ?_
      rotate_left 1
      · intro wq hSw
        try dsimp only at hSw
        go_simp
        try (with_reducible rfl)
      try simp only [Act.put, List.setIfInBounds_toArray, List.set_cons_zero, List.set_cons_succ]
      refine wpAnyH_take (i := 3) (v := ?_) (by simp only [List.getElem?_toArray, List.getElem?_cons_succ, List.getElem?_cons_zero]; rfl) (by kernel_rfl) (by kernel_rfl) (by kernel_rfl) (by intro _ _ _ h; exact nomatch h.1) (Or.inl ⟨by rfl, ?_⟩) hHeld ?_
      rotate_left 1
      · intro wq hSw
        try dsimp only at hSw
        go_simp
        try (with_reducible rfl)
      try simp only [Act.put, List.setIfInBounds_toArray, List.set_cons_zero, List.set_cons_succ]
      refine wpAnyH_take (i := 4) (v := (.int .i64 (p : Int))) (by simp only [List.getElem?_toArray, List.getElem?_cons_succ, List.getElem?_cons_zero]; rfl) (by kernel_rfl) (by kernel_rfl) (by kernel_rfl) (by intro _ _ _ h; exact nomatch h.1) (Or.inl ⟨by rfl, ?_⟩) hHeld ?_
      · intro wq hSw
        try dsimp only at hSw
        go_simp
        rw [IntWalk.i64_left]
        unfold wrap64
        have := hp.out
        omega
      try simp only [Act.put, List.setIfInBounds_toArray, List.set_cons_zero, List.set_cons_succ]
      refine wpAnyH_take (i := 5) (v := ?_) (by simp only [List.getElem?_toArray, List.getElem?_cons_succ, List.getElem?_cons_zero]; rfl) (by kernel_rfl) (by kernel_rfl) (by kernel_rfl) (by intro _ _ _ h; exact nomatch h.1) (Or.inl ⟨by rfl, ?_⟩) hHeld ?_
      rotate_left 1
      · intro wq hSw
        try dsimp only at hSw
        go_simp
        try (with_reducible rfl)
      try simp only [Act.put, List.setIfInBounds_toArray, List.set_cons_zero, List.set_cons_succ]
      refine wpAnyH_take (i := 7) (v := ?_) (by simp only [List.getElem?_toArray, List.getElem?_cons_succ, List.getElem?_cons_zero]; rfl) (by kernel_rfl) (by kernel_rfl) (by kernel_rfl) (by intro _ _ _ h; exact nomatch h.1) (Or.inl ⟨by rfl, ?_⟩) hHeld ?_
      rotate_left 1
      · intro wq hSw
        try dsimp only at hSw
        obtain ⟨z0, z1, z2, z3, z4, _⟩ := (V.under hSw).five
        go_simp
        try (with_reducible rfl)
      try simp only [Act.put, List.setIfInBounds_toArray, List.set_cons_zero, List.set_cons_succ]
      refine wpAnyH_take (i := 10) (v := ?_) (by simp only [List.getElem?_toArray, List.getElem?_cons_succ, List.getElem?_cons_zero]; rfl) (by kernel_rfl) (by kernel_rfl) (by kernel_rfl) (by intro _ _ _ h; exact nomatch h.1) (Or.inl ⟨by rfl, ?_⟩) hHeld ?_
      rotate_left 1
      · intro wq hSw
        try dsimp only at hSw
        go_simp
        try (with_reducible rfl)
      try simp only [Act.put, List.setIfInBounds_toArray, List.set_cons_zero, List.set_cons_succ]
      refine wpAnyH_take (i := 11) (v := ?_) (by simp only [List.getElem?_toArray, List.getElem?_cons_succ, List.getElem?_cons_zero]; rfl) (by kernel_rfl) (by kernel_rfl) (by kernel_rfl) (by intro _ _ _ h; exact nomatch h.1) (Or.inl ⟨by rfl, ?_⟩) hHeld ?_
      rotate_left 1
      · intro wq hSw
        try dsimp only at hSw
        go_simp
        try (with_reducible rfl)
      try simp only [Act.put, List.setIfInBounds_toArray, List.set_cons_zero, List.set_cons_succ]
      refine wpAnyH_ready (rs := [0, 8]) (by kernel_rfl) (by simp) ?_
      refine AllReadyH.cons (by simp only [List.getElem?_toArray, List.getElem?_cons_zero]; rfl) (fun K hK => ?_) (AllReadyH.cons (by simp only [List.getElem?_toArray, List.getElem?_cons_succ, List.getElem?_cons_zero]; rfl) (fun K hK => ?_) AllReadyH.nil)
      · skip
        obtain ⟨ko, hko⟩ : ∃ k, wd.heap.size = k := ⟨_, rfl⟩
        go_simp
        try simp only [hko]
        have O := rq_empty (F := fun _ => True) (B := w6.heap.size) (t := 38) wd hHeld.size
        rw [hko] at O
        have bN := hHeld.alloc hHeld.size (.cells #[] 38)
        clear hko
        generalize wd.alloc (.cells #[] 38) = w_0 at *
        refine hK.out _ _ (bN) (fun hHeld => ?_)
        clear hK K
        try dsimp only at hHeld
        clear bN
        try simp only [Act.put, List.setIfInBounds_toArray, List.set_cons_zero, List.set_cons_succ]
        refine wpAnyH_ready (rs := [6, 8]) (by kernel_rfl) (by simp) ?_
        refine AllReadyH.cons (by simp only [List.getElem?_toArray, List.getElem?_cons_succ, List.getElem?_cons_zero]; rfl) (fun K hK => ?_) (AllReadyH.cons (by simp only [List.getElem?_toArray, List.getElem?_cons_succ, List.getElem?_cons_zero]; rfl) (fun K hK => ?_) AllReadyH.nil)
        · skip
          have hro := O.lt
          obtain ⟨A6, c6, w_0_6, hr, O2, gr, hlies⟩ := O.appRs (P := Try.prog) (T := 22) (ty := 22) Try.underlying22 hiX hzX hsX hbX rfl hHeld.size ((U1.below hHeld).imp (F' := fun z => True ∧ (Value.slice (some ⟨ko, 0, none⟩) 0 0).ownBlock ≠ some z) (fun z _ hz => ⟨trivial, fun e => by have := (hro z e).1; omega⟩)) (by omega) (by omega)
          rw [Nat.zero_add] at hr O2 hlies
          rw [List.nil_append] at O2
          refine (if_pos (by rfl)).mpr (wp_app (.tmp 127) (.tmp 132) 22 rfl rfl rfl hr ?_)
          have bN := hHeld.grown gr hHeld.size (fun z hz => (hro z hz).1)
          replace O := O2
          clear O2 hr gr hlies hro
          refine hK.out _ _ (bN) (fun hHeld => ?_)
          clear hK K
          try dsimp only at hHeld
          clear bN
          try simp only [Act.put, List.setIfInBounds_toArray, List.set_cons_zero, List.set_cons_succ]
          refine wpAnyH_ready (rs := [8]) (by kernel_rfl) (by simp) ?_
          refine AllReadyH.cons (by simp only [List.getElem?_toArray, List.getElem?_cons_succ, List.getElem?_cons_zero]; rfl) (fun K hK => ?_) AllReadyH.nil
          obtain ⟨k8, hk8⟩ : ∃ k, w_0_6.heap.size = k := ⟨_, rfl⟩
          go_simp
          try simp only [hk8]
          have B8 := Blk.new w_0_6 #[.int .i64 z.la, .int .i64 z.n, .int .i64 z.k, .int .i64 z.g, .slice A9 m9 c9] 38
          rw [hk8] at B8
          have bN := hHeld.alloc hHeld.size (.cells #[.int .i64 z.la, .int .i64 z.n, .int .i64 z.k, .int .i64 z.g, .slice A9 m9 c9] 38)
          have hne8 : ∀ b, (Value.slice A6 p c6).ownBlock = some b → b ≠ k8 := fun b hb => by have := (O.lt b hb).2; omega
          replace O := O.alloc (.cells #[.int .i64 z.la, .int .i64 z.n, .int .i64 z.k, .int .i64 z.g, .slice A9 m9 c9] 38)
          clear hk8
          generalize w_0_6.alloc (.cells #[.int .i64 z.la, .int .i64 z.n, .int .i64 z.k, .int .i64 z.g, .slice A9 m9 c9] 38) = w_0_6_8 at *
          refine hK.out _ _ (bN) (fun hHeld => ?_)
          clear hK K
          try dsimp only at hHeld
          clear bN
          try simp only [Act.put, List.setIfInBounds_toArray, List.set_cons_zero, List.set_cons_succ]
          refine wpAnyH_ready (rs := [9]) (by kernel_rfl) (by simp) ?_
          refine AllReadyH.cons (by simp only [List.getElem?_toArray, List.getElem?_cons_succ, List.getElem?_cons_zero]; rfl) (fun K hK => ?_) AllReadyH.nil
          have hro := O.lt
          have hrd : extE.rd (fun b => True ∧ (Value.slice A6 p c6).ownBlock ≠ some b) w_0_6_8 [.int .i64 z.la, .int .i64 z.n, .int .i64 z.k, .int .i64 z.g, .slice A9 m9 c9] z := ⟨A9, c9, by rw [hm9.out], by rw [← hm9.out]; exact s9.below hHeld, fun h0 ad e => ⟨trivial, fun e2 => by have h1 := (hro _ e2).1; rw [← hm9.out] at h0; obtain ⟨ad', e', hb, _⟩ := s9.cells h0; cases e.symm.trans e'; omega⟩⟩
          obtain ⟨A9', c9', w_0_6_8_9, hr, O2, gr, hlies⟩ := O.app (P := Try.prog) (T := 22) (ty := 22) Try.underlying22 hiX hzX hsX hbX rfl hHeld.size (by omega) (by omega) hrd (one_ext _ _ _ _ _ _ _) B8
          refine (if_pos (by rfl)).mpr (wp_app (.tmp 133) (.tmp 135) 22 rfl rfl rfl hr ?_)
          have bN := hHeld.grown gr hHeld.size (fun z hz => (hro z hz).1)
          clear B8 hne8 hrd
          replace O := O2
          clear O2 hr gr hlies hro
          refine hK.out _ _ (bN) (fun hHeld => ?_)
          clear hK K
          try dsimp only at hHeld
          clear bN
          try simp only [Act.put, List.setIfInBounds_toArray, List.set_cons_zero, List.set_cons_succ]
          refine wpAnyH_ready (rs := [12]) (by kernel_rfl) (by simp) ?_
          refine AllReadyH.cons (by simp only [List.getElem?_toArray, List.getElem?_cons_succ, List.getElem?_cons_zero]; rfl) (fun K hK => ?_) AllReadyH.nil
          have hro := O.lt
          obtain ⟨A12, c12, w_0_6_8_9_12, hr, O2, gr, hlies⟩ := O.appRs (P := Try.prog) (T := 22) (ty := 22) Try.underlying22 hiX hzX hsX hbX rfl hHeld.size ((U2.below hHeld).imp (F' := fun z => True ∧ (Value.slice A9' (p + 1) c9').ownBlock ≠ some z) (fun z _ hz => ⟨trivial, fun e => by have := (hro z e).1; omega⟩)) (by omega) (by omega)
          refine (if_pos (by rfl)).mpr (wp_app (.tmp 136) (.tmp 138) 22 rfl rfl rfl hr ?_)
          have bN := hHeld.grown gr hHeld.size (fun z hz => (hro z hz).1)
          replace O := O2
          clear O2 hr gr hlies hro
          refine hK.out _ _ (bN) (fun hHeld => ?_)
          clear hK K
          try dsimp only at hHeld
          clear bN
          try simp only [Act.put, List.setIfInBounds_toArray, List.set_cons_zero, List.set_cons_succ]
          refine wpAnyH_take (i := 13) (v := ?_) (by simp only [List.getElem?_toArray, List.getElem?_cons_succ, List.getElem?_cons_zero]; rfl) (by kernel_rfl) (by kernel_rfl) (by kernel_rfl) (by intro _ _ _ h; exact nomatch h.1) (Or.inl ⟨by rfl, ?_⟩) hHeld ?_
          rotate_left 1
          · intro wq hSw
            try dsimp only at hSw
            go_simp
            try (with_reducible rfl)
          try simp only [Act.put, List.setIfInBounds_toArray, List.set_cons_zero, List.set_cons_succ]
          refine wpAnyH_done (by kernel_rfl) ?_ _
          refine ⟨rfl, ko, k8, A6, c6, A9', c9', A12, c12, ?_, (O.imp (F' := fun _ => True) (fun _ _ _ => trivial)).toRs (fun _ _ _ => trivial), hHeld⟩
          with_reducible rfl
        · skip
          obtain ⟨k8, hk8⟩ : ∃ k, w_0.heap.size = k := ⟨_, rfl⟩
          go_simp
          try simp only [hk8]
          have B8 := Blk.new w_0 #[.int .i64 z.la, .int .i64 z.n, .int .i64 z.k, .int .i64 z.g, .slice A9 m9 c9] 38
          rw [hk8] at B8
          have bN := hHeld.alloc hHeld.size (.cells #[.int .i64 z.la, .int .i64 z.n, .int .i64 z.k, .int .i64 z.g, .slice A9 m9 c9] 38)
          have hne8 : ∀ b, (Value.slice (some ⟨ko, 0, none⟩) 0 0).ownBlock = some b → b ≠ k8 := fun b hb => by have := (O.lt b hb).2; omega
          replace O := O.alloc (.cells #[.int .i64 z.la, .int .i64 z.n, .int .i64 z.k, .int .i64 z.g, .slice A9 m9 c9] 38)
          clear hk8
          generalize w_0.alloc (.cells #[.int .i64 z.la, .int .i64 z.n, .int .i64 z.k, .int .i64 z.g, .slice A9 m9 c9] 38) = w_0_8 at *
          refine hK.out _ _ (bN) (fun hHeld => ?_)
          clear hK K
          try dsimp only at hHeld
          clear bN
          try simp only [Act.put, List.setIfInBounds_toArray, List.set_cons_zero, List.set_cons_succ]
          refine wpAnyH_ready (rs := [6]) (by kernel_rfl) (by simp) ?_
          refine AllReadyH.cons (by simp only [List.getElem?_toArray, List.getElem?_cons_succ, List.getElem?_cons_zero]; rfl) (fun K hK => ?_) AllReadyH.nil
          have hro := O.lt
          obtain ⟨A6, c6, w_0_8_6, hr, O2, gr, hlies⟩ := O.appRs (P := Try.prog) (T := 22) (ty := 22) Try.underlying22 hiX hzX hsX hbX rfl hHeld.size ((U1.below hHeld).imp (F' := fun z => True ∧ (Value.slice (some ⟨ko, 0, none⟩) 0 0).ownBlock ≠ some z) (fun z _ hz => ⟨trivial, fun e => by have := (hro z e).1; omega⟩)) (by omega) (by omega)
          rw [Nat.zero_add] at hr O2 hlies
          rw [List.nil_append] at O2
          refine (if_pos (by rfl)).mpr (wp_app (.tmp 127) (.tmp 132) 22 rfl rfl rfl hr ?_)
          have bN := hHeld.grown gr hHeld.size (fun z hz => (hro z hz).1)
          have hne9 : ∀ b, (Value.slice A6 p c6).ownBlock = some b → b ≠ k8 := fun b hb => hlies.elim (fun e => hne8 b (e ▸ hb)) (fun e => by have := B8.lt; rw [e] at hb; cases hb; omega)
          replace B8 := B8.same (gr.block k8 B8.lt (fun e => hne8 k8 e.symm rfl))
          have hne8 := hne9
          clear hne9
          replace O := O2
          clear O2 hr gr hlies hro
          refine hK.out _ _ (bN) (fun hHeld => ?_)
          clear hK K
          try dsimp only at hHeld
          clear bN
          try simp only [Act.put, List.setIfInBounds_toArray, List.set_cons_zero, List.set_cons_succ]
          refine wpAnyH_ready (rs := [9]) (by kernel_rfl) (by simp) ?_
          refine AllReadyH.cons (by simp only [List.getElem?_toArray, List.getElem?_cons_succ, List.getElem?_cons_zero]; rfl) (fun K hK => ?_) AllReadyH.nil
          have hro := O.lt
          have hrd : extE.rd (fun b => True ∧ (Value.slice A6 p c6).ownBlock ≠ some b) w_0_8_6 [.int .i64 z.la, .int .i64 z.n, .int .i64 z.k, .int .i64 z.g, .slice A9 m9 c9] z := ⟨A9, c9, by rw [hm9.out], by rw [← hm9.out]; exact s9.below hHeld, fun h0 ad e => ⟨trivial, fun e2 => by have h1 := (hro _ e2).1; rw [← hm9.out] at h0; obtain ⟨ad', e', hb, _⟩ := s9.cells h0; cases e.symm.trans e'; omega⟩⟩
          obtain ⟨A9', c9', w_0_8_6_9, hr, O2, gr, hlies⟩ := O.app (P := Try.prog) (T := 22) (ty := 22) Try.underlying22 hiX hzX hsX hbX rfl hHeld.size (by omega) (by omega) hrd (one_ext _ _ _ _ _ _ _) B8
          refine (if_pos (by rfl)).mpr (wp_app (.tmp 133) (.tmp 135) 22 rfl rfl rfl hr ?_)
          have bN := hHeld.grown gr hHeld.size (fun z hz => (hro z hz).1)
          clear B8 hne8 hrd
          replace O := O2
          clear O2 hr gr hlies hro
          refine hK.out _ _ (bN) (fun hHeld => ?_)
          clear hK K
          try dsimp only at hHeld
          clear bN
          try simp only [Act.put, List.setIfInBounds_toArray, List.set_cons_zero, List.set_cons_succ]
          refine wpAnyH_ready (rs := [12]) (by kernel_rfl) (by simp) ?_
          refine AllReadyH.cons (by simp only [List.getElem?_toArray, List.getElem?_cons_succ, List.getElem?_cons_zero]; rfl) (fun K hK => ?_) AllReadyH.nil
          have hro := O.lt
          obtain ⟨A12, c12, w_0_8_6_9_12, hr, O2, gr, hlies⟩ := O.appRs (P := Try.prog) (T := 22) (ty := 22) Try.underlying22 hiX hzX hsX hbX rfl hHeld.size ((U2.below hHeld).imp (F' := fun z => True ∧ (Value.slice A9' (p + 1) c9').ownBlock ≠ some z) (fun z _ hz => ⟨trivial, fun e => by have := (hro z e).1; omega⟩)) (by omega) (by omega)
          refine (if_pos (by rfl)).mpr (wp_app (.tmp 136) (.tmp 138) 22 rfl rfl rfl hr ?_)
          have bN := hHeld.grown gr hHeld.size (fun z hz => (hro z hz).1)
          replace O := O2
          clear O2 hr gr hlies hro
          refine hK.out _ _ (bN) (fun hHeld => ?_)
          clear hK K
          try dsimp only at hHeld
          clear bN
          try simp only [Act.put, List.setIfInBounds_toArray, List.set_cons_zero, List.set_cons_succ]
          refine wpAnyH_take (i := 13) (v := ?_) (by simp only [List.getElem?_toArray, List.getElem?_cons_succ, List.getElem?_cons_zero]; rfl) (by kernel_rfl) (by kernel_rfl) (by kernel_rfl) (by intro _ _ _ h; exact nomatch h.1) (Or.inl ⟨by rfl, ?_⟩) hHeld ?_
          rotate_left 1
          · intro wq hSw
            try dsimp only at hSw
            go_simp
            try (with_reducible rfl)
          try simp only [Act.put, List.setIfInBounds_toArray, List.set_cons_zero, List.set_cons_succ]
          refine wpAnyH_done (by kernel_rfl) ?_ _
          refine ⟨rfl, ko, k8, A6, c6, A9', c9', A12, c12, ?_, (O.imp (F' := fun _ => True) (fun _ _ _ => trivial)).toRs (fun _ _ _ => trivial), hHeld⟩
          with_reducible rfl
      · skip
        obtain ⟨k8, hk8⟩ : ∃ k, wd.heap.size = k := ⟨_, rfl⟩
        go_simp
        try simp only [hk8]
        have B8 := Blk.new wd #[.int .i64 z.la, .int .i64 z.n, .int .i64 z.k, .int .i64 z.g, .slice A9 m9 c9] 38
        rw [hk8] at B8
        have bN := hHeld.alloc hHeld.size (.cells #[.int .i64 z.la, .int .i64 z.n, .int .i64 z.k, .int .i64 z.g, .slice A9 m9 c9] 38)
        clear hk8
        generalize wd.alloc (.cells #[.int .i64 z.la, .int .i64 z.n, .int .i64 z.k, .int .i64 z.g, .slice A9 m9 c9] 38) = w_8 at *
        refine hK.out _ _ (bN) (fun hHeld => ?_)
        clear hK K
        try dsimp only at hHeld
        clear bN
        try simp only [Act.put, List.setIfInBounds_toArray, List.set_cons_zero, List.set_cons_succ]
        refine wpAnyH_ready (rs := [0]) (by kernel_rfl) (by simp) ?_
        refine AllReadyH.cons (by simp only [List.getElem?_toArray, List.getElem?_cons_zero]; rfl) (fun K hK => ?_) AllReadyH.nil
        obtain ⟨ko, hko⟩ : ∃ k, w_8.heap.size = k := ⟨_, rfl⟩
        go_simp
        try simp only [hko]
        have O := rq_empty (F := fun _ => True) (B := w6.heap.size) (t := 38) w_8 hHeld.size
        rw [hko] at O
        have bN := hHeld.alloc hHeld.size (.cells #[] 38)
        have hne8 : ∀ b, (Value.slice (some ⟨ko, 0, none⟩) 0 0).ownBlock = some b → b ≠ k8 := fun b hb => by have := B8.lt; have hb' : some ko = some b := hb; cases hb'; omega
        replace B8 := B8.alloc (.cells #[] 38)
        clear hko
        generalize w_8.alloc (.cells #[] 38) = w_8_0 at *
        refine hK.out _ _ (bN) (fun hHeld => ?_)
        clear hK K
        try dsimp only at hHeld
        clear bN
        try simp only [Act.put, List.setIfInBounds_toArray, List.set_cons_zero, List.set_cons_succ]
        refine wpAnyH_ready (rs := [6]) (by kernel_rfl) (by simp) ?_
        refine AllReadyH.cons (by simp only [List.getElem?_toArray, List.getElem?_cons_succ, List.getElem?_cons_zero]; rfl) (fun K hK => ?_) AllReadyH.nil
        have hro := O.lt
        obtain ⟨A6, c6, w_8_0_6, hr, O2, gr, hlies⟩ := O.appRs (P := Try.prog) (T := 22) (ty := 22) Try.underlying22 hiX hzX hsX hbX rfl hHeld.size ((U1.below hHeld).imp (F' := fun z => True ∧ (Value.slice (some ⟨ko, 0, none⟩) 0 0).ownBlock ≠ some z) (fun z _ hz => ⟨trivial, fun e => by have := (hro z e).1; omega⟩)) (by omega) (by omega)
        rw [Nat.zero_add] at hr O2 hlies
        rw [List.nil_append] at O2
        refine (if_pos (by rfl)).mpr (wp_app (.tmp 127) (.tmp 132) 22 rfl rfl rfl hr ?_)
        have bN := hHeld.grown gr hHeld.size (fun z hz => (hro z hz).1)
        have hne9 : ∀ b, (Value.slice A6 p c6).ownBlock = some b → b ≠ k8 := fun b hb => hlies.elim (fun e => hne8 b (e ▸ hb)) (fun e => by have := B8.lt; rw [e] at hb; cases hb; omega)
        replace B8 := B8.same (gr.block k8 B8.lt (fun e => hne8 k8 e.symm rfl))
        have hne8 := hne9
        clear hne9
        replace O := O2
        clear O2 hr gr hlies hro
        refine hK.out _ _ (bN) (fun hHeld => ?_)
        clear hK K
        try dsimp only at hHeld
        clear bN
        try simp only [Act.put, List.setIfInBounds_toArray, List.set_cons_zero, List.set_cons_succ]
        refine wpAnyH_ready (rs := [9]) (by kernel_rfl) (by simp) ?_
        refine AllReadyH.cons (by simp only [List.getElem?_toArray, List.getElem?_cons_succ, List.getElem?_cons_zero]; rfl) (fun K hK => ?_) AllReadyH.nil
        have hro := O.lt
        have hrd : extE.rd (fun b => True ∧ (Value.slice A6 p c6).ownBlock ≠ some b) w_8_0_6 [.int .i64 z.la, .int .i64 z.n, .int .i64 z.k, .int .i64 z.g, .slice A9 m9 c9] z := ⟨A9, c9, by rw [hm9.out], by rw [← hm9.out]; exact s9.below hHeld, fun h0 ad e => ⟨trivial, fun e2 => by have h1 := (hro _ e2).1; rw [← hm9.out] at h0; obtain ⟨ad', e', hb, _⟩ := s9.cells h0; cases e.symm.trans e'; omega⟩⟩
        obtain ⟨A9', c9', w_8_0_6_9, hr, O2, gr, hlies⟩ := O.app (P := Try.prog) (T := 22) (ty := 22) Try.underlying22 hiX hzX hsX hbX rfl hHeld.size (by omega) (by omega) hrd (one_ext _ _ _ _ _ _ _) B8
        refine (if_pos (by rfl)).mpr (wp_app (.tmp 133) (.tmp 135) 22 rfl rfl rfl hr ?_)
        have bN := hHeld.grown gr hHeld.size (fun z hz => (hro z hz).1)
        clear B8 hne8 hrd
        replace O := O2
        clear O2 hr gr hlies hro
        refine hK.out _ _ (bN) (fun hHeld => ?_)
        clear hK K
        try dsimp only at hHeld
        clear bN
        try simp only [Act.put, List.setIfInBounds_toArray, List.set_cons_zero, List.set_cons_succ]
        refine wpAnyH_ready (rs := [12]) (by kernel_rfl) (by simp) ?_
        refine AllReadyH.cons (by simp only [List.getElem?_toArray, List.getElem?_cons_succ, List.getElem?_cons_zero]; rfl) (fun K hK => ?_) AllReadyH.nil
        have hro := O.lt
        obtain ⟨A12, c12, w_8_0_6_9_12, hr, O2, gr, hlies⟩ := O.appRs (P := Try.prog) (T := 22) (ty := 22) Try.underlying22 hiX hzX hsX hbX rfl hHeld.size ((U2.below hHeld).imp (F' := fun z => True ∧ (Value.slice A9' (p + 1) c9').ownBlock ≠ some z) (fun z _ hz => ⟨trivial, fun e => by have := (hro z e).1; omega⟩)) (by omega) (by omega)
        refine (if_pos (by rfl)).mpr (wp_app (.tmp 136) (.tmp 138) 22 rfl rfl rfl hr ?_)
        have bN := hHeld.grown gr hHeld.size (fun z hz => (hro z hz).1)
        replace O := O2
        clear O2 hr gr hlies hro
        refine hK.out _ _ (bN) (fun hHeld => ?_)
        clear hK K
        try dsimp only at hHeld
        clear bN
        try simp only [Act.put, List.setIfInBounds_toArray, List.set_cons_zero, List.set_cons_succ]
        refine wpAnyH_take (i := 13) (v := ?_) (by simp only [List.getElem?_toArray, List.getElem?_cons_succ, List.getElem?_cons_zero]; rfl) (by kernel_rfl) (by kernel_rfl) (by kernel_rfl) (by intro _ _ _ h; exact nomatch h.1) (Or.inl ⟨by rfl, ?_⟩) hHeld ?_
        rotate_left 1
        · intro wq hSw
          try dsimp only at hSw
          go_simp
          try (with_reducible rfl)
        try simp only [Act.put, List.setIfInBounds_toArray, List.set_cons_zero, List.set_cons_succ]
        refine wpAnyH_done (by kernel_rfl) ?_ _
        refine ⟨rfl, ko, k8, A6, c6, A9', c9', A12, c12, ?_, (O.imp (F' := fun _ => True) (fun _ _ _ => trivial)).toRs (fun _ _ _ => trivial), hHeld⟩
        with_reducible rfl
    rintro a w7 ⟨ko, k8, A6, c6, A9', c9', A8, c8, rfl, T6, b7⟩
    try dsimp only
    obtain rfl : n3 = p + 1 + q2 := by have := hm3.out; simp only [List.length_append, List.length_cons, List.length_nil, hk1.out, hk2.out] at this; have := e1.out; have := e2.out; have := hp.out; have := hq2.out; omega
    have T3 := S3.below b7
    replace bb := bb.trans (b7.mono bb.size)
    clear b7 U1 U2 S3 V s9
    go_wp2_with fail
    refine (fAll_any _ A8 (p + 1 + q2) c8 L3 c3 w7 T6 T3).mono ?_
    rintro e w8 ⟨rfl, b8⟩
    go_wp2
    go_ret
    exact ⟨rfl, bb.trans (b8.mono bb.size)⟩
theorem ExtmapParts_walk (a0 : Int) (a1 : Option Addr) (len1 cap1 : Nat) (a2 a3 a4 : Int) (w : World) (w0 : (Lit.int .i64 a0).wf = true) (w1 : IsSts [.num .i64, .num .i64, .num .i64, .num .i64, .row .u8] w a1 len1 cap1) (w2 : (Lit.int .u8 a2).wf = true) (w3 : (Lit.int .u8 a3).wf = true) (w4 : (Lit.int .u8 a4).wf = true) :
    Calls Try.prog 5 #[.int .i64 a0, .slice a1 len1 cap1, .int .u8 a2, .int .u8 a3, .int .u8 a4] w (AwakePost w) := by
  obtain ⟨xs, hla, h⟩ := exts_of_sts w1
  exact parts8_core a0 xs a1 len1 cap1 a2 a3 a4 w h hla (bounds_u8 w2) (bounds_u8 w3) (bounds_u8 w4)
end Go.Proofs.Ytepaojegcaapfaa
