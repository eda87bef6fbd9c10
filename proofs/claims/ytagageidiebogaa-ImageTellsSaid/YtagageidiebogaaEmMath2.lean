/-
  What follows for maps of extents: no program is named here.
-/
import Derived.Test.YtagageidiebogaaEmMath
namespace Go.Wag
set_option linter.unusedVariables false
set_option maxRecDepth 20000

/-! What lies over another one hides it. -/
theorem mput_twice {b : Int} {l : List Xp} {x : Xp} (h : mapB b l = true) (hx : mfit b x = true) : mput b (mput b l x) x = mput b l x := by
  refine mapB_ext (mput_map (mput_map h hx) hx) (mput_map h hx) (fun k => ?_)
  rw [mat_mput (mput_map h hx) hx, mat_mput h hx]
  split <;> rfl
theorem mput_apart {b : Int} {l : List Xp} {x y : Xp} (h : mapB b l = true) (hx : mfit b x = true) (hy : mfit b y = true) (ha : x.la + x.n ≤ y.la ∨ y.la + y.n ≤ x.la) : mput b (mput b l x) y = mput b (mput b l y) x := by
  refine mapB_ext (mput_map (mput_map h hx) hy) (mput_map (mput_map h hy) hx) (fun k => ?_)
  rw [mat_mput (mput_map h hx) hy, mat_mput h hx, mat_mput (mput_map h hy) hx, mat_mput h hy]
  by_cases h1 : xhas x k
  · have h2 : ¬ xhas y k := by unfold xhas at *; omega
    rw [if_neg h2, if_pos h1, if_pos h1]
  · rw [if_neg h1, if_neg h1]
theorem mat_one (y : Xp) (k : Int) : mat [y] k = if xhas y k then some (xone y k) else none := rfl
/-- The part where one was laid is that one. -/
theorem mparts_put {b : Int} {l : List Xp} {y : Xp} (h : mapB b l = true) (hy : mfit b y = true) : mparts (mput b l y) y.la y.n = [y] := by
  obtain ⟨hyo, hyb⟩ := (mfit_iff _ _).1 hy
  have ay := Xp.all hyo
  obtain ⟨b1, b2, r, a⟩ := (mapB_iff _ _).1 (mput_map h hy)
  refine mrun_ext (mrun_part r (by omega) b2 (by omega) (by omega)) ⟨hyo, rfl, rfl⟩ (mapart_mparts r a _ _) (mapart_jgo [] y) (fun k => ?_)
  rw [mat_mparts _ (mrun_ok r) (by omega) (by omega) (by omega) (by omega) k, mat_mput h hy, mat_one]
  by_cases hk : xhas y k
  · rw [if_pos (show y.la ≤ k ∧ k < y.la + y.n from hk), if_pos hk, if_pos hk]
  · rw [if_neg (show ¬ (y.la ≤ k ∧ k < y.la + y.n) from hk), if_neg hk]

/-! A map is laid anew by its extents. -/
theorem mfit_of {b : Int} {l : List Xp} (h : mapB b l = true) {x : Xp} (hx : x ∈ l) : mfit b x = true := by
  obtain ⟨b1, b2, r, a⟩ := (mapB_iff _ _).1 h
  exact (mfit_iff _ _).2 ⟨mrun_ok r x hx, (mrun_in r x hx).2⟩
theorem mlays_of {b : Int} {l : List Xp} (hl : mapB b l = true) : ∀ (over m0 : List Xp), (∀ x ∈ over, x ∈ l) → mapB b m0 = true →
    ∃ m1, mlays b m0 over = some m1 ∧ mapB b m1 = true ∧ ∀ k, ((∃ x ∈ over, xhas x k) → mat m1 k = mat l k) ∧ ((¬ ∃ x ∈ over, xhas x k) → mat m1 k = mat m0 k)
  | [], m0, _, h0 => ⟨m0, rfl, h0, fun k => ⟨fun ⟨x, hx, _⟩ => (by cases hx), fun _ => rfl⟩⟩
  | x :: over, m0, ho, h0 => by
    have hx := ho x (List.mem_cons_self ..)
    have hf := mfit_of hl hx
    obtain ⟨m1, e1, h1, hm⟩ := mlays_of hl over (mput b m0 x) (fun y hy => ho y (List.mem_cons_of_mem _ hy)) (mput_map h0 hf)
    refine ⟨m1, by rw [mlays_cons, if_pos hf, e1], h1, fun k => ?_⟩
    obtain ⟨_, _, r, _⟩ := (mapB_iff _ _).1 hl
    by_cases hk : ∃ y ∈ over, xhas y k
    · refine ⟨fun _ => (hm k).1 hk, fun hn => absurd ?_ hn⟩
      obtain ⟨y, hy, hyk⟩ := hk
      exact ⟨y, List.mem_cons_of_mem _ hy, hyk⟩
    · have e2 := (hm k).2 hk
      rw [mat_mput h0 hf] at e2
      by_cases hxk : xhas x k
      · rw [if_pos hxk] at e2
        refine ⟨fun _ => by rw [e2, mat_mem r hx hxk], fun hn => absurd ⟨x, List.mem_cons_self .., hxk⟩ hn⟩
      · rw [if_neg hxk] at e2
        refine ⟨fun ⟨y, hy, hyk⟩ => ?_, fun _ => e2⟩
        rcases List.mem_cons.1 hy with rfl | hy
        · exact absurd hyk hxk
        · exact absurd ⟨y, hy, hyk⟩ hk
theorem mlays_back {b : Int} {l : List Xp} (hl : mapB b l = true) : mlays b (mnew b) l.reverse = some l := by
  obtain ⟨b1, b2, r, a⟩ := (mapB_iff _ _).1 hl
  have hn := mnew_map b1 b2
  obtain ⟨_, _, rn, _⟩ := (mapB_iff _ _).1 hn
  obtain ⟨m1, e1, h1, hm⟩ := mlays_of hl l.reverse (mnew b) (fun x hx => List.mem_reverse.1 hx) hn
  rw [e1]
  congr 1
  refine mapB_ext h1 hl (fun k => ?_)
  by_cases hk : 0 ≤ k ∧ k < b
  · obtain ⟨x, hx, hxk, _⟩ := mat_has r hk.1 hk.2
    exact (hm k).1 ⟨x, List.mem_reverse.2 hx, hxk⟩
  · obtain ⟨_, _, r1, _⟩ := (mapB_iff _ _).1 h1
    rw [mat_out r1 (by omega), mat_out r (by omega)]
theorem mlays_since {b : Int} {l : List Xp} (hl : mapB b l = true) (g : Int) : mlays b l (msince l g) = some l := by
  obtain ⟨m1, e1, h1, hm⟩ := mlays_of hl (msince l g) l (fun x hx => (List.mem_filter.1 hx).1) hl
  rw [e1]
  congr 1
  refine mapB_ext h1 hl (fun k => ?_)
  by_cases hk : ∃ x ∈ msince l g, xhas x k
  · exact (hm k).1 hk
  · exact (hm k).2 hk

/-! Parts of a map. -/
theorem mapart_tail {l m : List Xp} {x y : Xp} (h1 : mapart (l ++ [x])) (h2 : mapart (y :: m)) (hj : xjoins x y = false) : mapart (l ++ [x] ++ y :: m) := by
  induction l with
  | nil => exact ⟨fun z hz => by cases hz; exact hj, h2⟩
  | cons u l ih =>
    refine ⟨fun z hz => h1.1 z ?_, ih h1.2⟩
    cases l <;> exact hz
theorem mapart_mid {l m : List Xp} {x y : Xp} (h1 : mapart (l ++ [x])) (h2 : mapart (y :: m)) (hj : xjoins x y = true) : mapart (l ++ [xboth x y] ++ m) := by
  induction l with
  | nil =>
    refine ⟨fun z hz => ?_, h2.2⟩
    have := h2.1 z hz
    obtain ⟨j1, j2, j3, j4, j5⟩ := xjoins_all hj
    simp only [xjoins, Bool.and_eq_false_iff, decide_eq_false_iff_not, xboth_ok hj, j2] at this ⊢
    rcases this with h | h
    · exact .inl h
    · refine .inr (fun hh => h ?_)
      have e1 : x.la + (x.n + y.n) = z.la := hh.1
      have e2 : x.k = z.k := hh.2.1
      have e3 : x.g = z.g := hh.2.2
      exact ⟨by omega, by omega, by omega⟩
  | cons u l ih =>
    refine ⟨fun z hz => ?_, ih h1.2⟩
    cases l with
    | nil =>
      cases hz
      have := h1.1 x rfl
      rwa [xjoins_head (z := u) (x := x) (h := xboth x y) rfl rfl rfl (by rw [xboth_ok hj, (xjoins_all hj).1])]
    | cons v l =>
      exact h1.1 z hz
theorem mrun_split : ∀ {l m : List Xp} {e f : Int}, mrun e (l ++ m) f → ∃ g, mrun e l g ∧ mrun g m f
  | [], m, e, f, h => ⟨e, rfl, h⟩
  | x :: l, m, e, f, h => by
    obtain ⟨g, h1, h2⟩ := mrun_split h.2.2
    exact ⟨g, ⟨h.1, h.2.1, h1⟩, h2⟩
/-- The parts within two stretches, one behind the other, with and without one that was cut in two. -/
theorem mparts_two {b : Int} {l : List Xp} (hl : mapB b l = true) {f n m : Int} (hf : 0 ≤ f) (hn : 1 ≤ n) (hm : 1 ≤ m) (hb : f + n + m ≤ b) {xs ys : List Xp} {x y : Xp} (hx : mparts l f n = xs ++ [x]) (hy : mparts l (f + n) m = y :: ys) :
    (xjoins x y = true → mparts l f (n + m) = xs ++ [xboth x y] ++ ys) ∧ (xjoins x y = false → mparts l f (n + m) = xs ++ [x] ++ y :: ys) := by
  obtain ⟨b1, b2, r, a⟩ := (mapB_iff _ _).1 hl
  have r1 := mrun_part r (a := f) (n := n) hf b2 (by omega) (by omega)
  have r2 := mrun_part r (a := f + n) (n := m) (by omega) b2 (by omega) (by omega)
  have r3 := mrun_part r (a := f) (n := n + m) hf b2 (by omega) (by omega)
  have a1 := mapart_mparts r a f n
  have a2 := mapart_mparts r a (f + n) m
  have a3 := mapart_mparts r a f (n + m)
  have ok := mrun_ok r
  have m1 := mat_mparts l (a := f) (n := n) ok hf (by omega) (by omega) (by omega)
  have m2 := mat_mparts l (a := f + n) (n := m) ok (by omega) (by omega) (by omega) (by omega)
  have m3 := mat_mparts l (a := f) (n := n + m) ok hf (by omega) (by omega) (by omega)
  have key : ∀ k, mat (mparts l f (n + m)) k = mat (xs ++ [x] ++ y :: ys) k := fun k => by
    rw [mat_append, ← hx, ← hy, m1, m2, m3]
    by_cases h1 : f ≤ k ∧ k < f + n
    · rw [if_pos (by omega), if_pos h1, if_neg (by omega)]
      cases mat l k <;> rfl
    · rw [if_neg h1]
      by_cases h2 : f + n ≤ k ∧ k < f + n + m
      · rw [if_pos (by omega), if_pos h2]
        rfl
      · rw [if_neg (by omega), if_neg h2]
        rfl
  rw [hx] at r1 a1
  rw [hy] at r2 a2
  rw [show f + (n + m) = f + n + m by omega] at r3
  refine ⟨fun hj => ?_, fun hj => ?_⟩
  · obtain ⟨g, s1, s2⟩ := mrun_split r1
    have s3 : mrun f (xs ++ [xboth x y] ++ ys) (f + n + m) := by
      rw [List.append_assoc]
      refine mrun_append s1 ⟨xboth_ok hj, s2.2.1, ?_⟩
      have e1 : g + x.n = f + n := s2.2.2
      have e2 : mrun (f + n + y.n) ys (f + n + m) := r2.2.2
      show mrun (g + (x.n + y.n)) ys _
      rw [show g + (x.n + y.n) = f + n + y.n by omega]
      exact e2
    refine mrun_ext r3 s3 a3 (mapart_mid a1 a2 hj) (fun k => ?_)
    have e1 : xs ++ [x] ++ y :: ys = xs ++ (x :: y :: ys) := by simp
    have e2 : xs ++ [xboth x y] ++ ys = xs ++ (xboth x y :: ys) := by simp
    rw [key, e1, e2, mat_append, mat_append]
    congr 1
    have := mat_jgo (y :: ys) x k
    rw [jgo_cons, if_pos hj, mat_jgo] at this
    exact this.symm
  · exact mrun_ext r3 (mrun_append r1 r2) a3 (mapart_tail a1 a2 hj) key

/-! One block of a map. -/
theorem mparts_one {b : Int} {l : List Xp} (hl : mapB b l = true) {k : Int} (h0 : 0 ≤ k) (hk : k < b) : ∃ y, mparts l k 1 = [y] ∧ mat l k = some y := by
  obtain ⟨b1, b2, r, a⟩ := (mapB_iff _ _).1 hl
  have r1 := mrun_part r (a := k) (n := 1) h0 b2 (by omega) (by omega)
  have m1 := mat_mparts l (a := k) (n := 1) (mrun_ok r) h0 (by omega) (by omega) (by omega) k
  rw [if_pos ⟨by omega, by omega⟩] at m1
  cases hp : mparts l k 1 with
  | nil =>
    rw [hp] at r1
    have : k = k + 1 := r1
    omega
  | cons y ys =>
    rw [hp] at r1 m1
    obtain ⟨o1, o2, o3⟩ := r1
    have ay := Xp.all o1
    cases ys with
    | cons z zs =>
      have := mrun_le o3.2.2
      have := Xp.all o3.1
      omega
    | nil =>
      have e3 : k + y.n = k + 1 := o3
      refine ⟨y, rfl, ?_⟩
      rw [← m1, mat_cons, if_pos ⟨by omega, by omega⟩]
      congr 1
      have := xpart_all o1
      rw [show y.la + y.n = k + 1 by omega, o2] at this
      exact this
theorem xone_hole {b k : Int} (hk : 0 ≤ k) (hb : k < b) : mat (mnew b) k = some ⟨k, 1, 0, 0, []⟩ := by
  rw [mnew, mat_one, if_pos ⟨hk, by show k < 0 + b; omega⟩]
  congr 1
  unfold xone xpart
  simp only [Xp.mk.injEq, true_and]
  refine ⟨by omega, by simp⟩
end Go.Wag
