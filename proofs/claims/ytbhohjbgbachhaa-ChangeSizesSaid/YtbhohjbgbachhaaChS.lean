/-
  Merged: XChAll XChSame.
-/
import Derived.Test.YtbhohjbgbachhaaRef7b
import Derived.Test.YtbhohjbgbachhaaDrawn
import Derived.Test.YtbhohjbgbachhaaCh1
/-
  Contract of the document's All of extents, of any lists (written by gen_chall.py).
-/
namespace Go.Proofs.Ytbhohjbgbachhaa
open Go.RowKit Go.Wag
set_option linter.unusedVariables false
set_option maxRecDepth 20000
/-- Whether two lists of extents are the same. -/
def xsl : List Xp → List Xp → Bool
  | [], [] => true
  | x :: a, y :: b => xsame x y && xsl a b
  | _, _ => false
theorem xsl_iff : ∀ (a b : List Xp), xsl a b = true ↔ a = b
  | [], [] => by simp [xsl]
  | [], _ :: _ => by simp [xsl]
  | _ :: _, [] => by simp [xsl]
  | x :: a, y :: b => by
    rw [xsl, Bool.and_eq_true, xsl_iff a b, xsame_iff, List.cons.injEq]
theorem xsl_len {a b : List Xp} (h : a.length ≠ b.length) : xsl a b = false := by
  cases hx : xsl a b
  · rfl
  · exact absurd (congrArg List.length ((xsl_iff a b).1 hx)) h
theorem xsl_drop {a b : List Xp} {k : Nat} {x y : Xp} (h1 : a[k]? = some x) (h2 : b[k]? = some y) : xsl (a.drop k) (b.drop k) = (xsame x y && xsl (a.drop (k + 1)) (b.drop (k + 1))) := by
  obtain ⟨p1, rfl⟩ := List.getElem?_eq_some_iff.1 h1
  obtain ⟨p2, rfl⟩ := List.getElem?_eq_some_iff.1 h2
  rw [List.drop_eq_getElem_cons p1, List.drop_eq_getElem_cons p2, xsl]
set_option maxHeartbeats 1000000 in
theorem fAllX_any {F F2 : Nat → Prop} (xs ys : List Xp) (A : Option Addr) (n c : Nat) (A2 : Option Addr) (n2 c2 : Nat) (w : World) (h : Rs extE F w A n c xs) (h2 : Rs extE F2 w A2 n2 c2 ys) :
    Calls Try.prog 17 #[.slice A n c, .slice A2 n2 c2] w fun e w' => e = .returned (.bool (xsl xs ys)) ∧ Below w.heap.size w w' := by
  have hcap := h.cap
  have hbig := h.big
  have HN : Hid (xs.length = n) := h.len
  have HN2 : Hid (ys.length = n2) := h2.len
  by_cases hnn : n = n2
  case neg =>
    have hne : ((n : Int) != (n2 : Int)) = true := by simp; omega
    rw [xsl_len (by rw [HN.out, HN2.out]; exact hnn)]
    go_enter Try.func17, Try.ntmps17
    go_wp2
    go_ret
    exact ⟨rfl, Below.refl _ _⟩
  subst hnn
  have hne : ((n : Int) != (n : Int)) = false := by simp
  go_enter Try.func17, Try.ntmps17
  go_wp2
  go_loopg [5] n (fun g i wr => ∃ k : Nat, k + g = n ∧ i = .int .i64 (k : Int) ∧ Hid (xsl xs ys = xsl (xs.drop k) (ys.drop k)) ∧ Below w.heap.size w wr)
  case atStart => exact ⟨0, by omega, rfl, rfl, Below.refl _ _⟩
  case round =>
    obtain ⟨k, hk, rfl, hx, br⟩ := hrel
    by_cases hlt : (k : Int) < (n : Int)
    · obtain ⟨g, rfl⟩ : ∃ g, gk = g + 1 := ⟨gk - 1, by omega⟩
      obtain ⟨gb, o, r, Ai, ci, rfl, _, hg, hz, c0, c1, c2', c3, c4, hS, _⟩ := (h.below br).ext_at (show k < n by omega)
      obtain ⟨gx, ox, rx, Ax, cx, rfl, _, hgx, hzx, e0, e1, e2, e3, e4, hX, _⟩ := (h2.below br).ext_at (show k < n by omega)
      have hd := Lib.hid (xsl_drop hz hzx)
      replace hk : Hid _ := hk
      clear hz hzx
      obtain ⟨sm, hsm⟩ : ∃ b, xsame r rx = b := ⟨_, rfl⟩
      go_wp2_with fail
      refine wp_region_held_drew (S := fun w' => Below wr.heap.size wr w') (by kernel_rfl) (Below.refl _ _).drew (fun hHeld => ?_)
      try dsimp only at hHeld
      have bd : Below wr.heap.size wr wr.drew := (Below.refl wr.heap.size wr).drew
      generalize wr.drew = wd at *
      try simp only [Act.put, List.setIfInBounds_toArray, List.set_cons_zero, List.set_cons_succ]
      refine wpAnyH_take (i := 0) (v := ?_) (by simp only [List.getElem?_toArray, List.getElem?_cons_zero]; rfl) (by kernel_rfl) (by kernel_rfl) (by kernel_rfl) (by intro _ _ _ h; exact h) (Or.inl ⟨by rfl, ?_⟩) hHeld ?_
      rotate_left 1
      · intro wq hSw
        try dsimp only at hSw
        go_simp
        try (with_reducible rfl)
      try simp only [Act.put, List.setIfInBounds_toArray, List.set_cons_zero, List.set_cons_succ]
      refine wpAnyH_take (i := 1) (v := ?_) (by simp only [List.getElem?_toArray, List.getElem?_cons_succ, List.getElem?_cons_zero]; rfl) (by kernel_rfl) (by kernel_rfl) (by kernel_rfl) (by intro _ _ _ h; exact h) (Or.inl ⟨by rfl, ?_⟩) hHeld ?_
      rotate_left 1
      · intro wq hSw
        try dsimp only at hSw
        go_simp
        try (with_reducible rfl)
      try simp only [Act.put, List.setIfInBounds_toArray, List.set_cons_zero, List.set_cons_succ]
      refine wpAnyH_take (i := 2) (v := ?_) (by simp only [List.getElem?_toArray, List.getElem?_cons_succ, List.getElem?_cons_zero]; rfl) (by kernel_rfl) (by kernel_rfl) (by kernel_rfl) (by intro _ _ _ h; exact h) (Or.inl ⟨by rfl, ?_⟩) hHeld ?_
      rotate_left 1
      · intro wq hSw
        try dsimp only at hSw
        go_simp
        try (with_reducible rfl)
      try simp only [Act.put, List.setIfInBounds_toArray, List.set_cons_zero, List.set_cons_succ]
      refine wpAnyH_take (i := 3) (v := ?_) (by simp only [List.getElem?_toArray, List.getElem?_cons_succ, List.getElem?_cons_zero]; rfl) (by kernel_rfl) (by kernel_rfl) (by kernel_rfl) (by intro _ _ _ h; exact h) (Or.inl ⟨by rfl, ?_⟩) hHeld ?_
      rotate_left 1
      · intro wq hSw
        try dsimp only at hSw
        have y0 := (hSw.cell hg).trans c0
        have y1 := (hSw.cell hg).trans c1
        have y2 := (hSw.cell hg).trans c2'
        have y3 := (hSw.cell hg).trans c3
        have y4 := (hSw.cell hg).trans c4
        go_simp
        try (with_reducible rfl)
      try simp only [Act.put, List.setIfInBounds_toArray, List.set_cons_zero, List.set_cons_succ]
      refine wpAnyH_take (i := 4) (v := ?_) (by simp only [List.getElem?_toArray, List.getElem?_cons_succ, List.getElem?_cons_zero]; rfl) (by kernel_rfl) (by kernel_rfl) (by kernel_rfl) (by intro _ _ _ h; exact h) (Or.inl ⟨by rfl, ?_⟩) hHeld ?_
      rotate_left 1
      · intro wq hSw
        try dsimp only at hSw
        go_simp
        try (with_reducible rfl)
      try simp only [Act.put, List.setIfInBounds_toArray, List.set_cons_zero, List.set_cons_succ]
      refine wpAnyH_take (i := 5) (v := ?_) (by simp only [List.getElem?_toArray, List.getElem?_cons_succ, List.getElem?_cons_zero]; rfl) (by kernel_rfl) (by kernel_rfl) (by kernel_rfl) (by intro _ _ _ h; exact h) (Or.inl ⟨by rfl, ?_⟩) hHeld ?_
      rotate_left 1
      · intro wq hSw
        try dsimp only at hSw
        go_simp
        try (with_reducible rfl)
      try simp only [Act.put, List.setIfInBounds_toArray, List.set_cons_zero, List.set_cons_succ]
      refine wpAnyH_take (i := 6) (v := ?_) (by simp only [List.getElem?_toArray, List.getElem?_cons_succ, List.getElem?_cons_zero]; rfl) (by kernel_rfl) (by kernel_rfl) (by kernel_rfl) (by intro _ _ _ h; exact h) (Or.inl ⟨by rfl, ?_⟩) hHeld ?_
      rotate_left 1
      · intro wq hSw
        try dsimp only at hSw
        go_simp
        try (with_reducible rfl)
      try simp only [Act.put, List.setIfInBounds_toArray, List.set_cons_zero, List.set_cons_succ]
      refine wpAnyH_take (i := 7) (v := ?_) (by simp only [List.getElem?_toArray, List.getElem?_cons_succ, List.getElem?_cons_zero]; rfl) (by kernel_rfl) (by kernel_rfl) (by kernel_rfl) (by intro _ _ _ h; exact h) (Or.inl ⟨by rfl, ?_⟩) hHeld ?_
      rotate_left 1
      · intro wq hSw
        try dsimp only at hSw
        have y0 := (hSw.cell hgx).trans e0
        have y1 := (hSw.cell hgx).trans e1
        have y2 := (hSw.cell hgx).trans e2
        have y3 := (hSw.cell hgx).trans e3
        have y4 := (hSw.cell hgx).trans e4
        go_simp
        try (with_reducible rfl)
      try simp only [Act.put, List.setIfInBounds_toArray, List.set_cons_zero, List.set_cons_succ]
      refine wpAnyH_ready (rs := [8]) (by kernel_rfl) (by simp) ?_
      refine AllReadyH.cons (by simp only [List.getElem?_toArray, List.getElem?_cons_succ, List.getElem?_cons_zero]; rfl) (fun K hK => ?_) AllReadyH.nil
      have hC := fSame_any r.la r.n r.k r.g Ai r.l.length ci r.l rx.la rx.n rx.k rx.g Ax rx.l.length cx rx.l wd (hS.below bd) (hX.below bd)
      rw [show xsame ⟨r.la, r.n, r.k, r.g, r.l⟩ ⟨rx.la, rx.n, rx.k, rx.g, rx.l⟩ = sm from hsm] at hC
      go_simp
      refine hC.mono ?_
      clear hC
      rintro e w5 ⟨rfl, b5⟩
      go_wp2_with fail
      refine hK.out _ _ (bd.trans (b5.mono bd.size)) (fun hHeld => ?_)
      clear hK K
      try dsimp only at hHeld
      try simp only [Act.put, List.setIfInBounds_toArray, List.set_cons_zero, List.set_cons_succ]
      refine wpAnyH_take (i := 9) (v := ?_) (by simp only [List.getElem?_toArray, List.getElem?_cons_succ, List.getElem?_cons_zero]; rfl) (by kernel_rfl) (by kernel_rfl) (by kernel_rfl) (by intro _ _ _ h; exact h) (Or.inl ⟨by rfl, ?_⟩) hHeld ?_
      rotate_left 1
      · intro wq hSw
        try dsimp only at hSw
        go_simp
        try (with_reducible rfl)
      try simp only [Act.put, List.setIfInBounds_toArray, List.set_cons_zero, List.set_cons_succ]
      refine wpAnyH_done (by kernel_rfl) ?_ _
      replace hsm := Lib.hid hsm
      cases sm
      · have hf : xsl xs ys = false := by rw [hx.out, hd.out, hsm.out]; rfl
        replace hf := Lib.hid hf
        go_wp2
        go_ret
        exact ⟨ret_bool hf.out.symm, br.trans (hHeld.mono br.size)⟩
      · have hf : Hid (xsl xs ys = xsl (xs.drop (k + 1)) (ys.drop (k + 1))) := by show _ = _; rw [hx.out, hd.out, hsm.out]; rfl
        go_wp2
        go_roundg g
        case measure => have := hk.out; omega
        case rel => exact ⟨k + 1, by have := hk.out; omega, by first | rfl | (simp; done), hf, br.trans (hHeld.mono br.size)⟩
    · have hf : xsl xs ys = true := by
        rw [hx.out, List.drop_eq_nil_of_le (by rw [HN.out]; omega), List.drop_eq_nil_of_le (by rw [HN2.out]; omega)]
        rfl
      replace hf := Lib.hid hf
      go_wp2
      go_ret
      exact ⟨ret_bool hf.out.symm, br⟩
end Go.Proofs.Ytbhohjbgbachhaa

/-
  Contract of the document's Same of changes (written by gen_chsame.py).
-/
namespace Go.Wag
def csameK (a b : Ch) : Prop := a.k = b.k ∧ a.la = b.la ∧ a.n = b.n ∧ a.i = b.i ∧ a.d = b.d
instance (a b : Ch) : Decidable (csameK a b) := by unfold csameK; infer_instance
theorem chstr {a b : List UInt8} : ((⟨a.toArray⟩ : ByteArray) == ⟨b.toArray⟩) = (a == b) := by
  show (a.toArray == b.toArray) = _
  simp
end Go.Wag
namespace Go.Proofs.Ytbhohjbgbachhaa
open Go.RowKit Go.Wag
set_option linter.unusedVariables false
set_option linter.unusedSimpArgs false
set_option maxRecDepth 20000
def csame (a b : Ch) : Bool := decide (csameK a b) && xsl a.l b.l
theorem csame_iff {a b : Ch} : csame a b = true ↔ a = b := by
  unfold csame
  rw [Bool.and_eq_true, decide_eq_true_iff, xsl_iff]
  unfold csameK
  constructor
  · rintro ⟨⟨h1, h2, h3, h4, h5⟩, h6⟩
    cases a
    cases b
    simp_all
  · rintro rfl
    exact ⟨⟨rfl, rfl, rfl, rfl, rfl⟩, rfl⟩
theorem csame_no {a b : Ch} (h : ¬ csameK a b) : csame a b = false := by
  unfold csame
  rw [decide_eq_false h, Bool.false_and]
theorem csame_yes {a b : Ch} (h : csameK a b) : csame a b = xsl a.l b.l := by
  unfold csame
  rw [decide_eq_true h, Bool.true_and]
set_option maxHeartbeats 2000000 in
theorem gSame_any {F F2 : Nat → Prop} (k1 la1 n1 i1 : Int) (A1 : Option Addr) (m1 c1 : Nat) (B1 : Option Addr) (p1 q1 : Nat) (d1 : List UInt8) (x1 : List Xp) (k2 la2 n2 i2 : Int) (A2 : Option Addr) (m2 c2 : Nat) (B2 : Option Addr) (p2 q2 : Nat) (d2 : List UInt8) (x2 : List Xp) (w : World) (h1 : Sl w A1 m1 c1 (d1.map v8)) (h2 : Sl w A2 m2 c2 (d2.map v8)) (r1 : Rs extE F w B1 p1 q1 x1) (r2 : Rs extE F2 w B2 p2 q2 x2) :
    Calls Try.prog 28 #[.agg #[.int .i64 k1, .int .i64 la1, .int .i64 n1, .int .i64 i1, .slice A1 m1 c1, .slice B1 p1 q1], .agg #[.int .i64 k2, .int .i64 la2, .int .i64 n2, .int .i64 i2, .slice A2 m2 c2, .slice B2 p2 q2]] w fun e w' => e = .returned (.bool (csame ⟨k1, la1, n1, i1, d1, x1⟩ ⟨k2, la2, n2, i2, d2, x2⟩)) ∧ Below w.heap.size w w' := by
  have V1 := (Blk.new w #[.int .i64 k1, .int .i64 la1, .int .i64 n1, .int .i64 i1, .slice A1 m1 c1, .slice B1 p1 q1] 37).alloc (.cells #[.int .i64 k2, .int .i64 la2, .int .i64 n2, .int .i64 i2, .slice A2 m2 c2, .slice B2 p2 q2] 37)
  have V2 := Blk.new (w.alloc (.cells #[.int .i64 k1, .int .i64 la1, .int .i64 n1, .int .i64 i1, .slice A1 m1 c1, .slice B1 p1 q1] 37)) #[.int .i64 k2, .int .i64 la2, .int .i64 n2, .int .i64 i2, .slice A2 m2 c2, .slice B2 p2 q2] 37
  have bb := ((Below.refl w.heap.size w).alloc (Nat.le_refl _) (.cells #[.int .i64 k1, .int .i64 la1, .int .i64 n1, .int .i64 i1, .slice A1 m1 c1, .slice B1 p1 q1] 37)).alloc (by simp) (.cells #[.int .i64 k2, .int .i64 la2, .int .i64 n2, .int .i64 i2, .slice A2 m2 c2, .slice B2 p2 q2] 37)
  have g1 := (h1.alloc (.cells #[.int .i64 k1, .int .i64 la1, .int .i64 n1, .int .i64 i1, .slice A1 m1 c1, .slice B1 p1 q1] 37)).alloc (.cells #[.int .i64 k2, .int .i64 la2, .int .i64 n2, .int .i64 i2, .slice A2 m2 c2, .slice B2 p2 q2] 37)
  have g2 := (h2.alloc (.cells #[.int .i64 k1, .int .i64 la1, .int .i64 n1, .int .i64 i1, .slice A1 m1 c1, .slice B1 p1 q1] 37)).alloc (.cells #[.int .i64 k2, .int .i64 la2, .int .i64 n2, .int .i64 i2, .slice A2 m2 c2, .slice B2 p2 q2] 37)
  have hC := fAllX_any x1 x2 B1 p1 q1 B2 p2 q2 _ ((r1.alloc (.cells #[.int .i64 k1, .int .i64 la1, .int .i64 n1, .int .i64 i1, .slice A1 m1 c1, .slice B1 p1 q1] 37)).alloc (.cells #[.int .i64 k2, .int .i64 la2, .int .i64 n2, .int .i64 i2, .slice A2 m2 c2, .slice B2 p2 q2] 37)) ((r2.alloc (.cells #[.int .i64 k1, .int .i64 la1, .int .i64 n1, .int .i64 i1, .slice A1 m1 c1, .slice B1 p1 q1] 37)).alloc (.cells #[.int .i64 k2, .int .i64 la2, .int .i64 n2, .int .i64 i2, .slice A2 m2 c2, .slice B2 p2 q2] 37))
  simp only [World.size_alloc] at V2
  clear h1 h2 r1 r2
  obtain ⟨sb, hsb⟩ : ∃ b, xsl x1 x2 = b := ⟨_, rfl⟩
  rw [hsb] at hC
  replace hsb := Lib.hid hsb
  go_enter Try.func28, Try.ntmps28
  obtain ⟨z0, z1, z2, z3, z4, z5, _⟩ := V1.six
  obtain ⟨y0, y1, y2, y3, y4, y5, _⟩ := V2.six
  go_wp2_with fail
  refine hC.mono ?_
  clear hC z0 z1 z2 z3 z4 z5 y0 y1 y2 y3 y4 y5
  rintro e w3 ⟨rfl, b3⟩
  replace V1 := V1.under b3
  replace V2 := V2.under b3
  replace g1 := g1.below b3
  replace g2 := g2.below b3
  replace bb := bb.trans (b3.mono bb.size)
  clear b3
  obtain ⟨z0, z1, z2, z3, z4, z5, _⟩ := V1.six
  obtain ⟨y0, y1, y2, y3, y4, y5, _⟩ := V2.six
  have s1 := str_of g1
  have s2 := str_of g2
  have hno : ∀ a b : Ch, ¬ csameK a b → csame a b = false := fun a b h => csame_no h
  by_cases qk : k1 = k2
  case neg =>
    have e0 : (k1 == k2) = false := by simpa using qk
    have hf := Lib.hid (hno ⟨k1, la1, n1, i1, d1, x1⟩ ⟨k2, la2, n2, i2, d2, x2⟩ (fun h => qk h.1))
    replace qk := Lib.hid qk
    clear hno s1 s2
    go_wp2
    go_ret
    exact ⟨ret_bool hf.out.symm, bb⟩
  have ek : (k1 == k2) = true := by simpa using qk
  replace qk := Lib.hid qk
  by_cases qla : la1 = la2
  case neg =>
    have e0 : (la1 == la2) = false := by simpa using qla
    have hf := Lib.hid (hno ⟨k1, la1, n1, i1, d1, x1⟩ ⟨k2, la2, n2, i2, d2, x2⟩ (fun h => qla h.2.1))
    replace qla := Lib.hid qla
    clear hno s1 s2
    go_wp2
    go_ret
    exact ⟨ret_bool hf.out.symm, bb⟩
  have ela : (la1 == la2) = true := by simpa using qla
  replace qla := Lib.hid qla
  by_cases qn : n1 = n2
  case neg =>
    have e0 : (n1 == n2) = false := by simpa using qn
    have hf := Lib.hid (hno ⟨k1, la1, n1, i1, d1, x1⟩ ⟨k2, la2, n2, i2, d2, x2⟩ (fun h => qn h.2.2.1))
    replace qn := Lib.hid qn
    clear hno s1 s2
    go_wp2
    go_ret
    exact ⟨ret_bool hf.out.symm, bb⟩
  have en : (n1 == n2) = true := by simpa using qn
  replace qn := Lib.hid qn
  by_cases qi : i1 = i2
  case neg =>
    have e0 : (i1 == i2) = false := by simpa using qi
    have hf := Lib.hid (hno ⟨k1, la1, n1, i1, d1, x1⟩ ⟨k2, la2, n2, i2, d2, x2⟩ (fun h => qi h.2.2.2.1))
    replace qi := Lib.hid qi
    clear hno s1 s2
    go_wp2
    go_ret
    exact ⟨ret_bool hf.out.symm, bb⟩
  have ei : (i1 == i2) = true := by simpa using qi
  replace qi := Lib.hid qi
  by_cases qd : d1 = d2
  case neg =>
    have e0 : ((⟨d1.toArray⟩ : ByteArray) == ⟨d2.toArray⟩) = false := by rw [chstr]; simpa using qd
    have hf := Lib.hid (hno ⟨k1, la1, n1, i1, d1, x1⟩ ⟨k2, la2, n2, i2, d2, x2⟩ (fun h => qd h.2.2.2.2))
    replace qd := Lib.hid qd
    clear hno
    go_wp2
    go_ret
    exact ⟨ret_bool hf.out.symm, bb⟩
  have e0 : ((⟨d1.toArray⟩ : ByteArray) == ⟨d2.toArray⟩) = true := by rw [chstr]; simpa using qd
  have hf : csame ⟨k1, la1, n1, i1, d1, x1⟩ ⟨k2, la2, n2, i2, d2, x2⟩ = sb := by rw [csame_yes ⟨qk.out, qla.out, qn.out, qi.out, qd⟩, ← hsb.out]
  replace hf := Lib.hid hf
  replace qd := Lib.hid qd
  clear hno
  go_wp2
  go_ret
  exact ⟨ret_bool hf.out.symm, bb⟩
end Go.Proofs.Ytbhohjbgbachhaa
