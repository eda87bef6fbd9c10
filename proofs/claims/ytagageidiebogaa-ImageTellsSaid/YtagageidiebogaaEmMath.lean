/-
  Plain facts on maps of extents: no program is named here.
-/
import Derived.Test.YtagageidiebogaaExtMath
namespace Go.Wag
set_option linter.unusedVariables false
set_option maxRecDepth 20000

/-- Whether block k is one of an extent's; that block alone. -/
def xhas (x : Xp) (k : Int) : Prop := x.la ≤ k ∧ k < x.la + x.n
instance (x : Xp) (k : Int) : Decidable (xhas x k) := inferInstanceAs (Decidable (_ ∧ _))
def xone (x : Xp) (k : Int) : Xp := xpart x k (k + 1)
theorem xone_k {x y : Xp} {a b : Int} (h : xone x a = xone y b) : x.k = y.k := by
  have h2 : (xone x a).k = (xone y b).k := by rw [h]
  exact h2
theorem xone_g {x y : Xp} {a b : Int} (h : xone x a = xone y b) : x.g = y.g := by
  have h2 : (xone x a).g = (xone y b).g := by rw [h]
  exact h2
theorem xone_l {x y : Xp} {a b : Int} (h : xone x a = xone y b) : (x.l.take (32 * (a + 1 - x.la)).toNat).drop (32 * (a - x.la)).toNat = (y.l.take (32 * (b + 1 - y.la)).toNat).drop (32 * (b - y.la)).toNat := by
  have h2 : (xone x a).l = (xone y b).l := by rw [h]
  exact h2
/-- What extents have at a block. -/
def mat : List Xp → Int → Option Xp
  | [], _ => none
  | x :: l, k => if xhas x k then some (xone x k) else mat l k
theorem mat_cons (x : Xp) (l : List Xp) (k : Int) : mat (x :: l) k = if xhas x k then some (xone x k) else mat l k := rfl
theorem mat_append (l m : List Xp) (k : Int) : mat (l ++ m) k = (mat l k).or (mat m k) := by
  induction l with
  | nil => simp [mat]
  | cons x l ih =>
    rw [List.cons_append, mat_cons, mat_cons]
    split
    · rfl
    · exact ih

/-- Extents that go on one another from a block up to another one. -/
def mrun : Int → List Xp → Int → Prop
  | e, [], f => e = f
  | e, x :: l, f => x.ok = true ∧ x.la = e ∧ mrun (e + x.n) l f
theorem mrun_append : ∀ {l m : List Xp} {e f g : Int}, mrun e l f → mrun f m g → mrun e (l ++ m) g
  | [], m, e, f, g, h, h2 => by
    cases h
    exact h2
  | x :: l, m, e, f, g, h, h2 => ⟨h.1, h.2.1, mrun_append h.2.2 h2⟩
theorem mrun_le : ∀ {l : List Xp} {e f : Int}, mrun e l f → e ≤ f
  | [], e, f, h => by
    cases h
    omega
  | x :: l, e, f, h => by
    have h1 := mrun_le h.2.2
    have h2 := Xp.all h.1
    omega
theorem mrun_ok : ∀ {l : List Xp} {e f : Int}, mrun e l f → ∀ x ∈ l, x.ok = true
  | [], e, f, h, x, hx => by cases hx
  | y :: l, e, f, h, x, hx => by
    rcases List.mem_cons.1 hx with rfl | hx
    · exact h.1
    · exact mrun_ok h.2.2 x hx
theorem mrun_in : ∀ {l : List Xp} {e f : Int}, mrun e l f → ∀ x ∈ l, e ≤ x.la ∧ x.la + x.n ≤ f
  | [], e, f, h, x, hx => by cases hx
  | y :: l, e, f, h, x, hx => by
    have h2 := Xp.all h.1
    have h3 := h.2.1
    rcases List.mem_cons.1 hx with rfl | hx
    · have h1 := mrun_le h.2.2
      omega
    · have h1 := mrun_in h.2.2 x hx
      omega
theorem mrun_ne {l : List Xp} {e f : Int} (h : mrun e l f) (hef : e < f) : l ≠ [] := by
  rintro rfl
  cases h
  omega
theorem mat_in : ∀ {l : List Xp} {e f : Int} (_ : mrun e l f) {k : Int} {y : Xp}, mat l k = some y → e ≤ k ∧ k < f
  | [], e, f, h, k, y, hm => by cases hm
  | x :: l, e, f, h, k, y, hm => by
    rw [mat_cons] at hm
    have h1 := mrun_le h.2.2
    have h2 := Xp.all h.1
    have h3 := h.2.1
    split at hm
    · rename_i hx
      unfold xhas at hx
      omega
    · have := mat_in h.2.2 hm
      omega
theorem mat_out {l : List Xp} {e f : Int} (h : mrun e l f) {k : Int} (hk : k < e ∨ f ≤ k) : mat l k = none := by
  cases hm : mat l k with
  | none => rfl
  | some y =>
    have := mat_in h hm
    omega
theorem mat_has : ∀ {l : List Xp} {e f : Int} (_ : mrun e l f) {k : Int}, e ≤ k → k < f → ∃ x ∈ l, xhas x k ∧ mat l k = some (xone x k)
  | [], e, f, h, k, h1, h2 => by
    cases h
    omega
  | x :: l, e, f, h, k, h1, h2 => by
    have h3 := h.2.1
    by_cases hx : xhas x k
    · exact ⟨x, List.mem_cons_self .., hx, by rw [mat_cons, if_pos hx]⟩
    · obtain ⟨y, hy, hk, hm⟩ := mat_has h.2.2 (k := k) (by unfold xhas at hx; omega) h2
      exact ⟨y, List.mem_cons_of_mem _ hy, hk, by rw [mat_cons, if_neg hx]; exact hm⟩
theorem mat_mem : ∀ {l : List Xp} {e f : Int} (_ : mrun e l f) {x : Xp} (_ : x ∈ l) {k : Int}, xhas x k → mat l k = some (xone x k)
  | [], e, f, h, x, hx, k, hk => by cases hx
  | y :: l, e, f, h, x, hx, k, hk => by
    rcases List.mem_cons.1 hx with rfl | hx
    · rw [mat_cons, if_pos hk]
    · have h1 := mrun_in h.2.2 x hx
      have h3 := h.2.1
      rw [mat_cons, if_neg (by unfold xhas at *; omega)]
      exact mat_mem h.2.2 hx hk

/-- None of them joins the one ahead. -/
def mapart : List Xp → Prop
  | [] => True
  | x :: l => (∀ y, l.head? = some y → xjoins x y = false) ∧ mapart l
theorem xjoins_of {x y : Xp} (h1 : x.ok = true) (h2 : y.ok = true) (h3 : x.la + x.n = y.la) (h4 : x.k = y.k) (h5 : x.g = y.g) : xjoins x y = true := by
  simp only [xjoins, h1, h2, Bool.true_and, decide_eq_true_eq]
  exact ⟨h3, h4, h5⟩

/-- Extents with equal blocks. -/
theorem drop_take_get {l : List UInt8} {s e i : Nat} (h1 : s + i < e) (h2 : e ≤ l.length) : ((l.take e).drop s)[i]? = l[s + i]? := by
  rw [List.getElem?_drop, List.getElem?_take, if_pos h1]
theorem xp_ext_one {x y : Xp} (hx : x.ok = true) (hy : y.ok = true) (h1 : x.la = y.la) (h2 : x.n = y.n) (h : ∀ k, xhas x k → xone x k = xone y k) : x = y := by
  obtain ⟨a1, a2, a3, a4, a5, a6, a7, a8, a9⟩ := Xp.all hx
  obtain ⟨b1, b2, b3, b4, b5, b6, b7, b8, b9⟩ := Xp.all hy
  have h0 := h x.la ⟨by omega, by omega⟩
  have hk : x.k = y.k := xone_k h0
  have hg : x.g = y.g := xone_g h0
  have hl : x.l = y.l := by
    by_cases hk2 : x.k = 2
    · have e1 := a8 hk2
      have e2 := b8 (hk ▸ hk2)
      apply List.ext_getElem?
      intro i
      by_cases hi : i < x.l.length
      · have hq := h (x.la + (i / 32 : Nat)) ⟨by omega, by omega⟩
        have hq3 : (x.l.take (32 * (i / 32 + 1))).drop (32 * (i / 32)) = (y.l.take (32 * (i / 32 + 1))).drop (32 * (i / 32)) := by
          have g1 : (32 * (x.la + (i / 32 : Nat) + 1 - x.la)).toNat = 32 * (i / 32 + 1) := by omega
          have g2 : (32 * (x.la + (i / 32 : Nat) - x.la)).toNat = 32 * (i / 32) := by omega
          have : (x.l.take (32 * (x.la + (i / 32 : Nat) + 1 - x.la)).toNat).drop (32 * (x.la + (i / 32 : Nat) - x.la)).toNat = (y.l.take (32 * (x.la + (i / 32 : Nat) + 1 - y.la)).toNat).drop (32 * (x.la + (i / 32 : Nat) - y.la)).toNat := xone_l hq
          rwa [← h1, g1, g2] at this
        have hq4 := congrArg (fun (q : List UInt8) => q[i % 32]?) hq3
        have hd : 32 * (i / 32) + i % 32 = i := by omega
        rw [drop_take_get (by omega) (by omega), drop_take_get (by omega) (by omega), hd] at hq4
        exact hq4
      · rw [List.getElem?_eq_none (by omega), List.getElem?_eq_none (by omega)]
    · rw [a9 hk2, b9 (hk ▸ hk2)]
  cases x
  cases y
  simp only at h1 h2 hk hg hl
  subst h1 h2 hk hg hl
  rfl

/-- Maps with equal blocks are equal. -/
theorem mrun_first {x y : Xp} {l m : List Xp} {e f : Int} (hl : mrun e (x :: l) f) (hm : mrun e (y :: m) f) (al : mapart (x :: l)) (h : ∀ k, mat (x :: l) k = mat (y :: m) k) : ¬ x.n < y.n := by
  intro hn
  obtain ⟨x1, x2, x3⟩ := hl
  obtain ⟨y1, y2, y3⟩ := hm
  have ax := Xp.all x1
  have ay := Xp.all y1
  have q1 := h e
  rw [mat_cons, mat_cons, if_pos ⟨by omega, by omega⟩, if_pos ⟨by omega, by omega⟩, Option.some.injEq] at q1
  have k1 : x.k = y.k := xone_k q1
  have g1 : x.g = y.g := xone_g q1
  have q2 := h (e + x.n)
  rw [mat_cons, mat_cons, if_neg (by unfold xhas; omega), if_pos ⟨by omega, by omega⟩] at q2
  have le := mrun_le y3
  cases l with
  | nil =>
    rw [mat] at q2
    cases q2
  | cons z l =>
    obtain ⟨z1, z2, z3⟩ := x3
    have az := Xp.all z1
    rw [mat_cons, if_pos ⟨by omega, by omega⟩, Option.some.injEq] at q2
    have k2 : z.k = y.k := xone_k q2
    have g2 : z.g = y.g := xone_g q2
    have := al.1 z rfl
    rw [xjoins_of x1 z1 (by omega) (by omega) (by omega)] at this
    cases this
theorem mrun_ext : ∀ {l m : List Xp} {e f : Int}, mrun e l f → mrun e m f → mapart l → mapart m → (∀ k, mat l k = mat m k) → l = m
  | [], m, e, f, hl, hm, al, am, h => by
    cases hl
    cases m with
    | nil => rfl
    | cons y m =>
      have := mrun_le hm.2.2
      have := Xp.all hm.1
      omega
  | x :: l, m, e, f, hl, hm, al, am, h => by
    cases m with
    | nil =>
      cases hm
      have := mrun_le hl.2.2
      have := Xp.all hl.1
      omega
    | cons y m =>
      have n1 := mrun_first hl hm al h
      have n2 := mrun_first hm hl am (fun k => (h k).symm)
      have hn : x.n = y.n := by omega
      have hla : x.la = y.la := by rw [hl.2.1, hm.2.1]
      have hxy : x = y := xp_ext_one hl.1 hm.1 hla hn (fun k hk => by
        have := h k
        rw [mat_cons, mat_cons, if_pos hk, if_pos (by unfold xhas at *; omega), Option.some.injEq] at this
        exact this)
      subst hxy
      congr 1
      refine mrun_ext hl.2.2 hm.2.2 al.2 am.2 (fun k => ?_)
      by_cases hk : xhas x k
      · have h3 := hl.2.1
        rw [mat_out hl.2.2 (by unfold xhas at hk; omega), mat_out hm.2.2 (by unfold xhas at hk; omega)]
      · have := h k
        rwa [mat_cons, mat_cons, if_neg hk, if_neg hk] at this

/-- What of each extent is within n blocks from a on. -/
def mparts (l : List Xp) (a n : Int) : List Xp := l.filterMap fun x => xcut x a n
theorem mparts_cons (x : Xp) (l : List Xp) (a n : Int) : mparts (x :: l) a n = match xcut x a n with | none => mparts l a n | some y => y :: mparts l a n := by
  rw [mparts, List.filterMap_cons]
  cases xcut x a n <;> rfl
theorem mparts_append (l m : List Xp) (a n : Int) : mparts (l ++ m) a n = mparts l a n ++ mparts m a n := by
  simp [mparts]
theorem xcut_is {x : Xp} {a n : Int} (hx : x.ok = true) (ha : 0 ≤ a) (ha2 : a ≤ 64) (hn : 0 ≤ n) (hn2 : n ≤ 64) : xcut x a n = if max x.la a < min (x.la + x.n) (a + n) then some (xpart x (max x.la a) (min (x.la + x.n) (a + n))) else none := by
  unfold xcut xlo xhi
  by_cases h : max x.la a < min (x.la + x.n) (a + n)
  · rw [if_pos ⟨hx, ha, ha2, hn, hn2, h⟩, if_pos h]
  · rw [if_neg (by simp [h]), if_neg h]
theorem mat_mparts : ∀ (l : List Xp) {a n : Int}, (∀ x ∈ l, x.ok = true) → 0 ≤ a → a ≤ 64 → 0 ≤ n → n ≤ 64 → ∀ k, mat (mparts l a n) k = if a ≤ k ∧ k < a + n then mat l k else none
  | [], a, n, h, ha, ha2, hn, hn2, k => by simp [mparts, mat]
  | x :: l, a, n, h, ha, ha2, hn, hn2, k => by
    have ih := mat_mparts l (fun y hy => h y (List.mem_cons_of_mem _ hy)) ha ha2 hn hn2 k
    have hx := h x (List.mem_cons_self ..)
    rw [mparts_cons, xcut_is hx ha ha2 hn hn2]
    by_cases hc : max x.la a < min (x.la + x.n) (a + n)
    · rw [if_pos hc]
      simp only
      rw [mat_cons, mat_cons, ih]
      by_cases hk : xhas (xpart x (max x.la a) (min (x.la + x.n) (a + n))) k
      · have hk2 : max x.la a ≤ k ∧ k < max x.la a + (min (x.la + x.n) (a + n) - max x.la a) := hk
        rw [if_pos hk, if_pos (by omega), if_pos (by unfold xhas; omega)]
        congr 1
        exact xpart_part (by omega) (by omega) (by omega) (by omega)
      · rw [if_neg hk]
        by_cases hk3 : a ≤ k ∧ k < a + n
        · rw [if_pos hk3, if_pos hk3, if_neg (fun hh => hk ⟨?_, ?_⟩)]
          · unfold xhas at hh
            show max x.la a ≤ k
            omega
          · unfold xhas at hh
            show k < max x.la a + (min (x.la + x.n) (a + n) - max x.la a)
            omega
        · rw [if_neg hk3, if_neg hk3]
    · rw [if_neg hc]
      simp only
      rw [ih, mat_cons]
      by_cases hk3 : a ≤ k ∧ k < a + n
      · rw [if_pos hk3, if_pos hk3, if_neg (by unfold xhas; omega)]
      · rw [if_neg hk3, if_neg hk3]
theorem mparts_nil {l : List Xp} {e f : Int} (h : mrun e l f) {a n : Int} (hn : a + n ≤ e ∨ n ≤ 0) : mparts l a n = [] := by
  unfold mparts
  rw [List.filterMap_eq_nil_iff]
  intro x hx
  have h1 := mrun_in h x hx
  unfold xcut xlo xhi
  rw [if_neg]
  intro hc
  omega
theorem mrun_mparts : ∀ {l : List Xp} {e f : Int} (_ : mrun e l f) {a n : Int}, 0 ≤ a → a ≤ 64 → 0 ≤ n → n ≤ 64 → mrun (max e a) (mparts l a n) (max (max e a) (min f (a + n)))
  | [], e, f, h, a, n, ha, ha2, hn, hn2 => by
    cases h
    show max e a = _
    omega
  | x :: l, e, f, h, a, n, ha, ha2, hn, hn2 => by
    obtain ⟨h1, h2, h3⟩ := h
    have ax := Xp.all h1
    have le := mrun_le h3
    have ih := mrun_mparts h3 ha ha2 hn hn2
    rw [mparts_cons, xcut_is h1 ha ha2 hn hn2]
    by_cases hc : max x.la a < min (x.la + x.n) (a + n)
    · rw [if_pos hc]
      refine ⟨xpart_ok h1 (by omega) hc (by omega), by show max x.la a = _; omega, ?_⟩
      show mrun (max e a + (min (x.la + x.n) (a + n) - max x.la a)) (mparts l a n) _
      by_cases hq : e + x.n ≤ a + n
      · have e1 : max e a + (min (x.la + x.n) (a + n) - max x.la a) = max (e + x.n) a := by omega
        have e2 : max (max e a) (min f (a + n)) = max (max (e + x.n) a) (min f (a + n)) := by omega
        rw [e1, e2]
        exact ih
      · rw [mparts_nil h3 (.inl (by omega))]
        show _ = _
        omega
    · rw [if_neg hc]
      by_cases hq : e + x.n ≤ a
      · have e1 : max e a = max (e + x.n) a := by omega
        show mrun (max e a) (mparts l a n) _
        rw [e1]
        exact ih
      · show mrun (max e a) (mparts l a n) _
        rw [mparts_nil h3 (by omega)]
        show _ = _
        omega
theorem mrun_part {l : List Xp} {b : Int} (h : mrun 0 l b) {a n : Int} (ha : 0 ≤ a) (hb : b ≤ 64) (hn : 0 ≤ n) (hs : a + n ≤ b) : mrun a (mparts l a n) (a + n) := by
  have := mrun_mparts h (a := a) (n := n) ha (by omega) hn (by omega)
  rwa [show max (0 : Int) a = a by omega, show max a (min b (a + n)) = a + n by omega] at this
theorem mparts_mem {l : List Xp} {a n : Int} {z : Xp} (h : z ∈ mparts l a n) : ∃ x ∈ l, xcut x a n = some z := by
  simpa [mparts] using h
theorem mapart_mparts : ∀ {l : List Xp} {e f : Int} (_ : mrun e l f) (_ : mapart l) (a n : Int), mapart (mparts l a n)
  | [], e, f, h, hp, a, n => trivial
  | x :: l, e, f, h, hp, a, n => by
    obtain ⟨h1, h2, h3⟩ := h
    have ih := mapart_mparts h3 hp.2 a n
    rw [mparts_cons]
    cases hx : xcut x a n with
    | none => exact ih
    | some y =>
      refine ⟨fun z hz => ?_, ih⟩
      obtain ⟨_, _, _, _, _, hlt, rfl⟩ := xcut_some hx
      by_cases hj : xjoins (xpart x (xlo x a) (xhi x a n)) z = true
      · exfalso
        obtain ⟨_, z1, z2, z3, z4⟩ := xjoins_all hj
        have z2' : xlo x a + (xhi x a n - xlo x a) = z.la := z2
        have z3' : x.k = z.k := z3
        have z4' : x.g = z.g := z4
        cases l with
        | nil =>
          rw [mparts] at hz
          cases hz
        | cons u l =>
          obtain ⟨u1, u2, u3⟩ := h3
          have au := Xp.all u1
          rw [mparts_cons] at hz
          cases hu : xcut u a n with
          | none =>
            rw [hu] at hz
            have hm : z ∈ mparts l a n := List.mem_of_mem_head? hz
            obtain ⟨v, hv, hc⟩ := mparts_mem hm
            obtain ⟨_, _, _, _, _, hlt2, rfl⟩ := xcut_some hc
            have hi := mrun_in u3 v hv
            have z2'' : xlo x a + (xhi x a n - xlo x a) = xlo v a := z2'
            unfold xlo xhi at *
            omega
          | some y2 =>
            rw [hu] at hz
            cases hz
            obtain ⟨_, _, _, _, _, hlt2, rfl⟩ := xcut_some hu
            have := hp.1 u rfl
            rw [xjoins_of h1 u1 (by omega) z3' z4'] at this
            cases this
      · simpa using hj

/-- Each extent as one with those behind it that join it. -/
def jgo (x : Xp) : List Xp → List Xp
  | [] => [x]
  | y :: l => if xjoins x y then jgo (xboth x y) l else x :: jgo y l
def joinL : List Xp → List Xp
  | [] => []
  | x :: l => jgo x l
theorem jgo_cons (x y : Xp) (l : List Xp) : jgo x (y :: l) = if xjoins x y then jgo (xboth x y) l else x :: jgo y l := rfl
theorem jgo_head : ∀ (l : List Xp) (x : Xp), ∃ h t, jgo x l = h :: t ∧ h.la = x.la ∧ h.k = x.k ∧ h.g = x.g ∧ h.ok = x.ok
  | [], x => ⟨x, [], rfl, rfl, rfl, rfl, rfl⟩
  | y :: l, x => by
    rw [jgo_cons]
    by_cases hj : xjoins x y = true
    · rw [if_pos hj]
      obtain ⟨h, t, e1, e2, e3, e4, e5⟩ := jgo_head l (xboth x y)
      exact ⟨h, t, e1, e2, e3, e4, by rw [e5, xboth_ok hj, (xjoins_all hj).1]⟩
    · rw [if_neg hj]
      exact ⟨x, _, rfl, rfl, rfl, rfl, rfl⟩
theorem xjoins_head {z x h : Xp} (e2 : h.la = x.la) (e3 : h.k = x.k) (e4 : h.g = x.g) (e5 : h.ok = x.ok) : xjoins z h = xjoins z x := by
  simp only [xjoins, e2, e3, e4, e5]
theorem mapart_jgo : ∀ (l : List Xp) (x : Xp), mapart (jgo x l)
  | [], x => ⟨fun y h => (by cases h), trivial⟩
  | y :: l, x => by
    rw [jgo_cons]
    by_cases hj : xjoins x y = true
    · rw [if_pos hj]
      exact mapart_jgo l _
    · rw [if_neg hj]
      refine ⟨fun z hz => ?_, mapart_jgo l y⟩
      obtain ⟨h, t, e1, e2, e3, e4, e5⟩ := jgo_head l y
      rw [e1] at hz
      cases hz
      rw [xjoins_head e2 e3 e4 e5]
      simpa using hj
theorem mapart_joinL (l : List Xp) : mapart (joinL l) := by
  cases l with
  | nil => trivial
  | cons x l => exact mapart_jgo l x
theorem mrun_jgo : ∀ {l : List Xp} {x : Xp} {e f : Int}, mrun e (x :: l) f → mrun e (jgo x l) f
  | [], x, e, f, h => h
  | y :: l, x, e, f, h => by
    rw [jgo_cons]
    obtain ⟨h1, h2, h3, h4, h5⟩ := h
    by_cases hj : xjoins x y = true
    · rw [if_pos hj]
      refine mrun_jgo ⟨xboth_ok hj, h2, ?_⟩
      show mrun (e + (x.n + y.n)) l f
      rw [show e + (x.n + y.n) = e + x.n + y.n by omega]
      exact h5
    · rw [if_neg hj]
      exact ⟨h1, h2, mrun_jgo ⟨h3, h4, h5⟩⟩
theorem mrun_joinL {l : List Xp} {e f : Int} (h : mrun e l f) : mrun e (joinL l) f := by
  cases l with
  | nil => exact h
  | cons x l => exact mrun_jgo h
theorem xpart_left {x y : Xp} (hj : xjoins x y = true) : xpart (xboth x y) x.la (x.la + x.n) = x := by
  obtain ⟨h1, h2, h3, h4, h5⟩ := xjoins_all hj
  obtain ⟨a1, a2, a3, a4, a5, a6, a7, a8, a9⟩ := Xp.all h1
  obtain ⟨b1, b2, b3, b4, b5, b6, b7, b8, b9⟩ := Xp.all h2
  have el : ((x.l ++ y.l).take (32 * (x.la + x.n - x.la)).toNat).drop (32 * (x.la - x.la)).toNat = x.l := by
    rw [show (32 * (x.la - x.la)).toNat = 0 by omega, List.drop_zero]
    by_cases hk : x.k = 2
    · have := a8 hk
      rw [show (32 * (x.la + x.n - x.la)).toNat = x.l.length by omega, List.take_append_of_le_length (Nat.le_refl _), List.take_length]
    · rw [a9 hk, b9 (h4 ▸ hk)]
      simp
  unfold xpart xboth
  cases x
  simp only [Xp.mk.injEq, true_and]
  exact ⟨by omega, el⟩
theorem xpart_right {x y : Xp} (hj : xjoins x y = true) : xpart (xboth x y) y.la (y.la + y.n) = y := by
  obtain ⟨h1, h2, h3, h4, h5⟩ := xjoins_all hj
  obtain ⟨a1, a2, a3, a4, a5, a6, a7, a8, a9⟩ := Xp.all h1
  obtain ⟨b1, b2, b3, b4, b5, b6, b7, b8, b9⟩ := Xp.all h2
  have el : ((x.l ++ y.l).take (32 * (y.la + y.n - x.la)).toNat).drop (32 * (y.la - x.la)).toNat = y.l := by
    by_cases hk : x.k = 2
    · have e1 := a8 hk
      have e2 := b8 (h4 ▸ hk)
      rw [List.take_of_length_le (by rw [List.length_append]; omega), show (32 * (y.la - x.la)).toNat = x.l.length by omega, List.drop_append_of_le_length (Nat.le_refl _), List.drop_length, List.nil_append]
    · rw [a9 hk, b9 (h4 ▸ hk)]
      simp
  unfold xpart xboth
  cases y
  simp only [Xp.mk.injEq, true_and] at *
  exact ⟨by omega, h4, h5, el⟩
theorem xone_left {x y : Xp} (hj : xjoins x y = true) {k : Int} (hk : xhas x k) : xone (xboth x y) k = xone x k := by
  unfold xhas at hk
  have h : xpart (xpart (xboth x y) x.la (x.la + x.n)) k (k + 1) = xpart (xboth x y) k (k + 1) := xpart_part (Int.le_refl _) hk.1 (by omega) (by omega)
  rw [xpart_left hj] at h
  exact h.symm
theorem xone_right {x y : Xp} (hj : xjoins x y = true) {k : Int} (hk : xhas y k) : xone (xboth x y) k = xone y k := by
  obtain ⟨h1, h2, h3, h4, h5⟩ := xjoins_all hj
  have a := Xp.all h1
  unfold xhas at hk
  have h : xpart (xpart (xboth x y) y.la (y.la + y.n)) k (k + 1) = xpart (xboth x y) k (k + 1) := xpart_part (by show x.la ≤ y.la; omega) hk.1 (by omega) (by omega)
  rw [xpart_right hj] at h
  exact h.symm
theorem mat_jgo : ∀ (l : List Xp) (x : Xp) (k : Int), mat (jgo x l) k = mat (x :: l) k
  | [], x, k => rfl
  | y :: l, x, k => by
    rw [jgo_cons]
    by_cases hj : xjoins x y = true
    · rw [if_pos hj, mat_jgo l (xboth x y) k, mat_cons, mat_cons, mat_cons]
      obtain ⟨h1, h2, h3, h4, h5⟩ := xjoins_all hj
      have ax := Xp.all h1
      have ay := Xp.all h2
      by_cases hx : xhas x k
      · rw [if_pos (show xhas (xboth x y) k by unfold xhas at *; exact ⟨hx.1, by show k < x.la + (x.n + y.n); omega⟩), if_pos hx, xone_left hj hx]
      · rw [if_neg hx]
        by_cases hy : xhas y k
        · rw [if_pos (show xhas (xboth x y) k by unfold xhas at *; exact ⟨by show x.la ≤ k; omega, by show k < x.la + (x.n + y.n); omega⟩), if_pos hy, xone_right hj hy]
        · rw [if_neg hy, if_neg (fun hh => ?_)]
          have hh2 : x.la ≤ k ∧ k < x.la + (x.n + y.n) := hh
          unfold xhas at hx hy
          omega
    · rw [if_neg hj, mat_cons, mat_jgo l y k, mat_cons x]
theorem mat_joinL (l : List Xp) (k : Int) : mat (joinL l) k = mat l k := by
  cases l with
  | nil => rfl
  | cons x l => exact mat_jgo l x k

/-- Whether a list is a map of b blocks. -/
def mchain : Option Xp → Int → List Xp → Int → Bool
  | _, e, [], b => decide (e = b)
  | p, e, x :: l, b => x.ok && decide (x.la = e) && !(match p with | none => false | some y => xjoins y x) && mchain (some x) (e + x.n) l b
theorem mchain_cons (p : Option Xp) (e : Int) (x : Xp) (l : List Xp) (b : Int) : mchain p e (x :: l) b = (x.ok && decide (x.la = e) && !(match p with | none => false | some y => xjoins y x) && mchain (some x) (e + x.n) l b) := by
  cases p <;> rfl
def mapB (b : Int) (l : List Xp) : Bool := decide (1 ≤ b ∧ b ≤ 64) && mchain none 0 l b
theorem mchain_iff : ∀ (l : List Xp) (p : Option Xp) (e b : Int), mchain p e l b = true ↔ mrun e l b ∧ mapart l ∧ (∀ y z, p = some y → l.head? = some z → xjoins y z = false)
  | [], p, e, b => by
    simp only [mchain, mrun, mapart, decide_eq_true_eq, true_and]
    exact ⟨fun h => ⟨h, fun y z _ hz => by cases hz⟩, fun h => h.1⟩
  | x :: l, p, e, b => by
    rw [mchain_cons]
    simp only [Bool.and_eq_true, decide_eq_true_eq, Bool.not_eq_true', mchain_iff l]
    constructor
    · rintro ⟨⟨⟨h1, h2⟩, h3⟩, h4, h5, h6⟩
      refine ⟨⟨h1, h2, h4⟩, ⟨fun y hy => h6 x y rfl hy, h5⟩, fun y z hp hz => ?_⟩
      cases hz
      subst hp
      exact h3
    · rintro ⟨⟨h1, h2, h4⟩, ⟨h6, h5⟩, h7⟩
      refine ⟨⟨⟨h1, h2⟩, ?_⟩, h4, h5, fun y z hy hz => ?_⟩
      · cases p with
        | none => rfl
        | some y => exact h7 y x rfl rfl
      · cases hy
        exact h6 z hz
theorem mapB_iff (b : Int) (l : List Xp) : mapB b l = true ↔ 1 ≤ b ∧ b ≤ 64 ∧ mrun 0 l b ∧ mapart l := by
  unfold mapB
  rw [Bool.and_eq_true, decide_eq_true_eq, mchain_iff]
  constructor
  · rintro ⟨⟨h1, h2⟩, h3, h4, _⟩
    exact ⟨h1, h2, h3, h4⟩
  · rintro ⟨h1, h2, h3, h4⟩
    exact ⟨⟨h1, h2⟩, h3, h4, fun y z hy _ => by cases hy⟩
/-- Maps of one size with equal blocks are equal. -/
theorem mapB_ext {b : Int} {l m : List Xp} (hl : mapB b l = true) (hm : mapB b m = true) (h : ∀ k, mat l k = mat m k) : l = m := by
  obtain ⟨_, _, r1, a1⟩ := (mapB_iff _ _).1 hl
  obtain ⟨_, _, r2, a2⟩ := (mapB_iff _ _).1 hm
  exact mrun_ext r1 r2 a1 a2 h

/-- A map of holes. -/
def mnew (b : Int) : List Xp := [⟨0, b, 0, 0, []⟩]
theorem xhole_ok {a b : Int} (h0 : 0 ≤ a) (h1 : 1 ≤ b) (h2 : a + b ≤ 64) : (Xp.mk a b 0 0 []).ok = true :=
  Xp.ok_of h0 h1 h2 (show (0 : Int) ≤ 0 by decide) (show (0 : Int) ≤ 2 by decide) (show (0 : Int) ≤ 0 by decide) (show (0 : Int) ≤ 2147483647 by decide) (fun h => (by cases h)) (fun _ => rfl)
theorem mnew_map {b : Int} (h1 : 1 ≤ b) (h2 : b ≤ 64) : mapB b (mnew b) = true := by
  refine (mapB_iff _ _).2 ⟨h1, h2, ⟨xhole_ok (by decide) h1 (by omega), rfl, ?_⟩, mapart_jgo [] _⟩
  show 0 + b = b
  omega

/-- With an extent laid over. -/
def mpieces (b : Int) (l : List Xp) (x : Xp) : List Xp := mparts l 0 x.la ++ x :: mparts l (x.la + x.n) (b - (x.la + x.n))
def mput (b : Int) (l : List Xp) (x : Xp) : List Xp := joinL (mpieces b l x)
def mfit (b : Int) (x : Xp) : Bool := x.ok && decide (x.la + x.n ≤ b)
theorem mfit_iff (b : Int) (x : Xp) : mfit b x = true ↔ x.ok = true ∧ x.la + x.n ≤ b := by
  unfold mfit
  rw [Bool.and_eq_true, decide_eq_true_eq]
theorem mpieces_run {b : Int} {l : List Xp} {x : Xp} (h : mapB b l = true) (hx : mfit b x = true) : mrun 0 (mpieces b l x) b := by
  obtain ⟨b1, b2, r, _⟩ := (mapB_iff _ _).1 h
  obtain ⟨hx, hb⟩ := (mfit_iff _ _).1 hx
  have ax := Xp.all hx
  have r1 := mrun_part r (a := 0) (n := x.la) (by omega) (by omega) (by omega) (by omega)
  have r2 := mrun_part r (a := x.la + x.n) (n := b - (x.la + x.n)) (by omega) (by omega) (by omega) (by omega)
  rw [show x.la + x.n + (b - (x.la + x.n)) = b by omega] at r2
  rw [show (0 : Int) + x.la = x.la by omega] at r1
  exact mrun_append r1 ⟨hx, rfl, r2⟩
theorem mput_map {b : Int} {l : List Xp} {x : Xp} (h : mapB b l = true) (hx : mfit b x = true) : mapB b (mput b l x) = true := by
  obtain ⟨b1, b2, r, _⟩ := (mapB_iff _ _).1 h
  exact (mapB_iff _ _).2 ⟨b1, b2, mrun_joinL (mpieces_run h hx), mapart_joinL _⟩
theorem mat_mput {b : Int} {l : List Xp} {x : Xp} (h : mapB b l = true) (hx : mfit b x = true) (k : Int) : mat (mput b l x) k = if xhas x k then some (xone x k) else mat l k := by
  obtain ⟨b1, b2, r, _⟩ := (mapB_iff _ _).1 h
  obtain ⟨hx, hb⟩ := (mfit_iff _ _).1 hx
  have ax := Xp.all hx
  rw [mput, mat_joinL, mpieces, mat_append, mat_cons, mat_mparts l (mrun_ok r) (by omega) (by omega) (by omega) (by omega) k, mat_mparts l (mrun_ok r) (by omega) (by omega) (by omega) (by omega) k]
  by_cases hk : xhas x k
  · rw [if_pos hk, if_pos hk, if_neg (by unfold xhas at hk; omega)]
    rfl
  · rw [if_neg hk, if_neg hk]
    unfold xhas at hk
    by_cases h1 : 0 ≤ k ∧ k < 0 + x.la
    · rw [if_pos h1, if_neg (by omega)]
      cases mat l k <;> rfl
    · rw [if_neg h1]
      by_cases h2 : x.la + x.n ≤ k ∧ k < x.la + x.n + (b - (x.la + x.n))
      · rw [if_pos h2]
        rfl
      · rw [if_neg h2, mat_out r (by omega)]
        rfl

/-- With some laid over, one behind the other. -/
def mlays (b : Int) : List Xp → List Xp → Option (List Xp)
  | l, [] => some l
  | l, x :: t => if mfit b x then mlays b (mput b l x) t else none
theorem mlays_nil (b : Int) (l : List Xp) : mlays b l [] = some l := rfl
theorem mlays_cons (b : Int) (l : List Xp) (x : Xp) (t : List Xp) : mlays b l (x :: t) = if mfit b x then mlays b (mput b l x) t else none := rfl
theorem mlays_map : ∀ {t l m : List Xp} {b : Int}, mapB b l = true → mlays b l t = some m → mapB b m = true
  | [], l, m, b, h, hm => by
    cases hm
    exact h
  | x :: t, l, m, b, h, hm => by
    rw [mlays_cons] at hm
    split at hm
    · rename_i hf
      exact mlays_map (mput_map h hf) hm
    · cases hm
/-- Those of a generation above another one; how many blocks are of a kind. -/
def msince (l : List Xp) (g : Int) : List Xp := l.filter fun x => decide (g < x.g)
def mmany (l : List Xp) (k : Int) : Int := match l with
  | [] => 0
  | x :: l => (if x.ok = true ∧ x.k = k then x.n else 0) + mmany l k
theorem mmany_cons (x : Xp) (l : List Xp) (k : Int) : mmany (x :: l) k = (if x.ok = true ∧ x.k = k then x.n else 0) + mmany l k := rfl
theorem mmany_snoc : ∀ (l : List Xp) (x : Xp) (k : Int), mmany (l ++ [x]) k = mmany l k + if x.ok = true ∧ x.k = k then x.n else 0
  | [], x, k => by
    show _ + 0 = 0 + _
    omega
  | y :: l, x, k => by
    rw [List.cons_append, mmany_cons, mmany_cons, mmany_snoc]
    omega
theorem mmany_le : ∀ (l : List Xp) (k : Int), 0 ≤ mmany l k ∧ mmany l k ≤ 64 * l.length
  | [], k => by
    show 0 ≤ (0 : Int) ∧ (0 : Int) ≤ 64 * ((0 : Nat) : Int)
    omega
  | x :: l, k => by
    have := mmany_le l k
    rw [mmany_cons, List.length_cons]
    split
    · rename_i h
      have := Xp.all h.1
      omega
    · omega
theorem mmany_all : ∀ {l : List Xp} {e f : Int}, mrun e l f → mmany l 0 + mmany l 1 + mmany l 2 = f - e
  | [], e, f, h => by
    cases h
    show (0 : Int) + 0 + 0 = e - e
    omega
  | x :: l, e, f, h => by
    have ih := mmany_all h.2.2
    have ax := Xp.all h.1
    have hk : x.k = 0 ∨ x.k = 1 ∨ x.k = 2 := by omega
    rw [mmany_cons, mmany_cons, mmany_cons]
    rcases hk with hk | hk | hk <;> simp only [h.1, hk, true_and] <;> simp <;> omega
theorem mparts_whole {l : List Xp} {b : Int} (h : mrun 0 l b) (hb : b ≤ 64) : mparts l 0 b = l := by
  suffices h2 : ∀ (l : List Xp) (e : Int), 0 ≤ e → mrun e l b → mparts l 0 b = l from h2 l 0 (by omega) h
  intro l
  induction l with
  | nil => intro e _ _; rfl
  | cons x l ih =>
    intro e he hr
    obtain ⟨h1, h2, h3⟩ := hr
    have ax := Xp.all h1
    have le := mrun_le h3
    rw [mparts_cons, xcut_is h1 (by omega) (by omega) (by omega) (by omega), if_pos (by omega), show max x.la 0 = x.la by omega, show min (x.la + x.n) (0 + b) = x.la + x.n by omega, xpart_all h1]
    simp only
    rw [ih (e + x.n) (by omega) h3]
theorem mparts_copy : ∀ (l : List Xp), mparts l 0 64 = l.filter Xp.ok
  | [] => rfl
  | x :: l => by
    rw [mparts_cons, mparts_copy l]
    by_cases h : x.ok = true
    · have ax := Xp.all h
      rw [xcut_is h (by omega) (by omega) (by omega) (by omega), if_pos (by omega), show max x.la 0 = x.la by omega, show min (x.la + x.n) (0 + 64) = x.la + x.n by omega, xpart_all h, List.filter_cons_of_pos h]
    · rw [show xcut x 0 64 = none from if_neg (fun hc => h hc.1), List.filter_cons_of_neg h]
theorem mcopy_ok {l : List Xp} (h : ∀ x ∈ l, x.ok = true) : mparts l 0 64 = l := by
  rw [mparts_copy, List.filter_eq_self.2 h]
theorem mapB_len {b : Int} {l : List Xp} (h : mapB b l = true) : (l.length : Int) ≤ b := by
  obtain ⟨_, _, r, _⟩ := (mapB_iff _ _).1 h
  have h2 : ∀ (l : List Xp) (e f : Int), mrun e l f → e + l.length ≤ f := by
    intro l
    induction l with
    | nil =>
      intro e f h
      cases h
      simp
    | cons x l ih =>
      intro e f h
      have := ih _ _ h.2.2
      have := Xp.all h.1
      rw [List.length_cons]
      omega
  have := h2 _ _ _ r
  omega
end Go.Wag
