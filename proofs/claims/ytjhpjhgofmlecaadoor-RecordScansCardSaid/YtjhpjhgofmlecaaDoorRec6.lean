/-
  Contracts of the document's Same, Numbers and All of records (written by gen_rec6.py).
-/
import Derived.Test.YtjhpjhgofmlecaaDoorRec5
namespace Go.Wag
theorem Sl.vint_at {w : World} {A : Option Addr} {n c : Nat} {ks : List Int} {k : Nat} (h : Sl w A n c (ks.map vint)) (hk : k < n) : ∃ ad x, A = some ad ∧ ad.block < w.heap.size ∧ ks[k]? = some x ∧ w.cell? (ad.add k) = some (.int .i64 x) := by
  obtain ⟨ad, u, e, hb, hu, hc⟩ := h.at_ hk
  rw [List.getElem?_map, Option.map_eq_some_iff] at hu
  obtain ⟨x, hx, rfl⟩ := hu
  exact ⟨ad, x, e, hb, hx, hc⟩
end Go.Wag
namespace Go.Proofs.YtjhpjhgofmlecaaDoor
open Go.RowKit Go.Wag
set_option linter.unusedVariables false

def sameR (k1 s1 : Int) (l1 : List UInt8) (k2 s2 : Int) (l2 : List UInt8) : Bool := decide (k1 = k2 ∧ s1 = s2 ∧ l1 = l2)
theorem sameR_self (k s : Int) (l : List UInt8) : sameR k s l k s l = true := by simp [sameR]

set_option maxHeartbeats 400000 in
theorem recSame_any (k1 s1 : Int) (A1 : Option Addr) (n1 c1 : Nat) (l1 : List UInt8) (k2 s2 : Int) (A2 : Option Addr) (n2 c2 : Nat) (l2 : List UInt8) (w : World) (h1 : Sl w A1 n1 c1 (l1.map v8)) (h2 : Sl w A2 n2 c2 (l2.map v8)) :
    Calls Tryd.prog 14 #[.agg #[.int .i64 k1, .int .i64 s1, .slice A1 n1 c1], .agg #[.int .i64 k2, .int .i64 s2, .slice A2 n2 c2]] w
      fun e w' => e = .returned (.bool (sameR k1 s1 l1 k2 s2 l2)) ∧ Below w.heap.size w w' := by
  by_cases e1 : k1 = k2
  · subst e1
    by_cases e2 : s1 = s2
    · subst e2
      have q1 := str_of ((h1.alloc (.cells #[.int .i64 k1, .int .i64 s1, .slice A1 n1 c1] 25)).alloc (.cells #[.int .i64 k1, .int .i64 s1, .slice A2 n2 c2] 25))
      have q2 := str_of ((h2.alloc (.cells #[.int .i64 k1, .int .i64 s1, .slice A1 n1 c1] 25)).alloc (.cells #[.int .i64 k1, .int .i64 s1, .slice A2 n2 c2] 25))
      go_enter Tryd.func14, Tryd.ntmps14
      go_wp2
      all_goals
        go_ret
        go_tidy
        refine ⟨congrArg (fun b => Ending.returned (.bool b)) (?_ : (_ : Bool) = _), ((Below.refl _ _).alloc (Nat.le_refl _) _).alloc (by simp) _⟩
        first
          | (simp_all [sameR]; done)
          | (simp_all [sameR]; rw [Bool.eq_iff_iff]; simp)
    · have e2' : (s1 == s2) = false := by simp [e2]
      have q1 := str_of ((h1.alloc (.cells #[.int .i64 k1, .int .i64 s1, .slice A1 n1 c1] 25)).alloc (.cells #[.int .i64 k1, .int .i64 s2, .slice A2 n2 c2] 25))
      have q2 := str_of ((h2.alloc (.cells #[.int .i64 k1, .int .i64 s1, .slice A1 n1 c1] 25)).alloc (.cells #[.int .i64 k1, .int .i64 s2, .slice A2 n2 c2] 25))
      go_enter Tryd.func14, Tryd.ntmps14
      go_wp2
      go_ret
      refine ⟨congrArg (fun b => Ending.returned (.bool b)) (?_ : (_ : Bool) = _), ((Below.refl _ _).alloc (Nat.le_refl _) _).alloc (by simp) _⟩
      simp [sameR, e2]
  · have e1' : (k1 == k2) = false := by simp [e1]
    have q1 := str_of ((h1.alloc (.cells #[.int .i64 k1, .int .i64 s1, .slice A1 n1 c1] 25)).alloc (.cells #[.int .i64 k2, .int .i64 s2, .slice A2 n2 c2] 25))
    have q2 := str_of ((h2.alloc (.cells #[.int .i64 k1, .int .i64 s1, .slice A1 n1 c1] 25)).alloc (.cells #[.int .i64 k2, .int .i64 s2, .slice A2 n2 c2] 25))
    go_enter Tryd.func14, Tryd.ntmps14
    go_wp2
    go_ret
    refine ⟨congrArg (fun b => Ending.returned (.bool b)) (?_ : (_ : Bool) = _), ((Below.refl _ _).alloc (Nat.le_refl _) _).alloc (by simp) _⟩
    simp [sameR, e1]

set_option maxHeartbeats 400000 in
theorem numSame_any (ks : List Int) (A : Option Addr) (n c : Nat) (A2 : Option Addr) (c2 : Nat) (w : World) (h : Sl w A n c (ks.map vint)) (h2 : Sl w A2 n c2 (ks.map vint)) :
    Calls Tryd.prog 22 #[.slice A n c, .slice A2 n c2] w fun e w' => e = .returned (.bool true) ∧ Below w.heap.size w w' := by
  have hcap := h.cap
  have hbig := h.big
  have hne : ((n : Int) != (n : Int)) = false := by simp
  go_enter Tryd.func22, Tryd.ntmps22
  go_wp2
  go_loopg [5] n (fun g i wr => ∃ k : Nat, k + g = n ∧ i = .int .i64 (k : Int) ∧ Below w.heap.size w wr)
  case atStart => exact ⟨0, by omega, rfl, Below.refl _ _⟩
  case round =>
    obtain ⟨k, hk, rfl, br⟩ := hrel
    by_cases hlt : (k : Int) < (n : Int)
    · obtain ⟨g, rfl⟩ : ∃ g, gk = g + 1 := ⟨gk - 1, by omega⟩
      obtain ⟨ad, x, rfl, hb, hx, hc⟩ := (h.below br).vint_at (show k < n by omega)
      obtain ⟨ad2, y, rfl, hb2, hy, hc2⟩ := (h2.below br).vint_at (show k < n by omega)
      obtain rfl : x = y := Option.some.inj (hx.symm.trans hy)
      have hbn : (x != x) = false := by simp
      clear hx hy
      go_wp2_with fail
      go_quiet (fail)
      go_wp2
      go_roundg g
      case measure => omega
      case rel => exact ⟨k + 1, by omega, by go_num, drewN_below br _⟩
    · go_wp2
      go_ret
      exact ⟨rfl, br⟩

set_option maxHeartbeats 1000000 in
theorem allSame_any {F F2 : Nat → Prop} (rs : List Rp) (A : Option Addr) (n c : Nat) (A2 : Option Addr) (c2 : Nat) (w : World) (h : Rs recE F w A n c rs) (h2 : Rs recE F2 w A2 n c2 rs) :
    Calls Tryd.prog 21 #[.slice A n c, .slice A2 n c2] w fun e w' => e = .returned (.bool true) ∧ Below w.heap.size w w' := by
  have hcap := h.cap
  have hbig := h.big
  have hne : ((n : Int) != (n : Int)) = false := by simp
  go_enter Tryd.func21, Tryd.ntmps21
  go_wp2
  go_loopg [5] n (fun g i wr => ∃ k : Nat, k + g = n ∧ i = .int .i64 (k : Int) ∧ Below w.heap.size w wr)
  case atStart => exact ⟨0, by omega, rfl, Below.refl _ _⟩
  case round =>
    obtain ⟨k, hk, rfl, br⟩ := hrel
    by_cases hlt : (k : Int) < (n : Int)
    · obtain ⟨g, rfl⟩ : ∃ g, gk = g + 1 := ⟨gk - 1, by omega⟩
      obtain ⟨gb, o, r, Ai, ci, rfl, _, hg, hz, c0, c1, c2', hS, _⟩ := (h.below br).rec_at (show k < n by omega)
      obtain ⟨gx, ox, rx, Ax, cx, rfl, _, hgx, hzx, e0, e1, e2, hX, _⟩ := (h2.below br).rec_at (show k < n by omega)
      obtain rfl : rx = r := Option.some.inj (hzx.symm.trans hz)
      replace hk : Hid _ := hk
      clear hz hzx
      go_wp2_with fail
      refine wp_region_held_drew (S := fun w' => Below wr.heap.size wr w') (by kernel_rfl) (Below.refl _ _).drew (fun hHeld => ?_)
      try dsimp only at hHeld
      have bd : Below wr.heap.size wr wr.drew := (Below.refl wr.heap.size wr).drew
      generalize wr.drew = wd at *
      try simp only [Act.put, List.setIfInBounds_toArray, List.set_cons_zero, List.set_cons_succ]
      refine wpAnyH_take (i := 0) (v := ?_) (by simp only [List.getElem?_toArray, List.getElem?_cons_zero]; rfl) (by kernel_rfl) (by kernel_rfl) (by kernel_rfl) (by intro _ _ _ h; exact h) (Or.inl ⟨by rfl, ?_⟩) hHeld ?_
      rotate_left 1
      · intro wq hSw
        try dsimp only at hSw
        go_simp
        try (with_reducible rfl)
      try simp only [Act.put, List.setIfInBounds_toArray, List.set_cons_zero, List.set_cons_succ]
      refine wpAnyH_take (i := 1) (v := ?_) (by simp only [List.getElem?_toArray, List.getElem?_cons_succ, List.getElem?_cons_zero]; rfl) (by kernel_rfl) (by kernel_rfl) (by kernel_rfl) (by intro _ _ _ h; exact h) (Or.inl ⟨by rfl, ?_⟩) hHeld ?_
      rotate_left 1
      · intro wq hSw
        try dsimp only at hSw
        go_simp
        try (with_reducible rfl)
      try simp only [Act.put, List.setIfInBounds_toArray, List.set_cons_zero, List.set_cons_succ]
      refine wpAnyH_take (i := 2) (v := ?_) (by simp only [List.getElem?_toArray, List.getElem?_cons_succ, List.getElem?_cons_zero]; rfl) (by kernel_rfl) (by kernel_rfl) (by kernel_rfl) (by intro _ _ _ h; exact h) (Or.inl ⟨by rfl, ?_⟩) hHeld ?_
      rotate_left 1
      · intro wq hSw
        try dsimp only at hSw
        go_simp
        try (with_reducible rfl)
      try simp only [Act.put, List.setIfInBounds_toArray, List.set_cons_zero, List.set_cons_succ]
      refine wpAnyH_take (i := 3) (v := ?_) (by simp only [List.getElem?_toArray, List.getElem?_cons_succ, List.getElem?_cons_zero]; rfl) (by kernel_rfl) (by kernel_rfl) (by kernel_rfl) (by intro _ _ _ h; exact h) (Or.inl ⟨by rfl, ?_⟩) hHeld ?_
      rotate_left 1
      · intro wq hSw
        try dsimp only at hSw
        have y0 := (hSw.cell hg).trans c0
        have y1 := (hSw.cell hg).trans c1
        have y2 := (hSw.cell hg).trans c2'
        go_simp
        try (with_reducible rfl)
      try simp only [Act.put, List.setIfInBounds_toArray, List.set_cons_zero, List.set_cons_succ]
      refine wpAnyH_take (i := 4) (v := ?_) (by simp only [List.getElem?_toArray, List.getElem?_cons_succ, List.getElem?_cons_zero]; rfl) (by kernel_rfl) (by kernel_rfl) (by kernel_rfl) (by intro _ _ _ h; exact h) (Or.inl ⟨by rfl, ?_⟩) hHeld ?_
      rotate_left 1
      · intro wq hSw
        try dsimp only at hSw
        go_simp
        try (with_reducible rfl)
      try simp only [Act.put, List.setIfInBounds_toArray, List.set_cons_zero, List.set_cons_succ]
      refine wpAnyH_take (i := 5) (v := ?_) (by simp only [List.getElem?_toArray, List.getElem?_cons_succ, List.getElem?_cons_zero]; rfl) (by kernel_rfl) (by kernel_rfl) (by kernel_rfl) (by intro _ _ _ h; exact h) (Or.inl ⟨by rfl, ?_⟩) hHeld ?_
      rotate_left 1
      · intro wq hSw
        try dsimp only at hSw
        go_simp
        try (with_reducible rfl)
      try simp only [Act.put, List.setIfInBounds_toArray, List.set_cons_zero, List.set_cons_succ]
      refine wpAnyH_take (i := 6) (v := ?_) (by simp only [List.getElem?_toArray, List.getElem?_cons_succ, List.getElem?_cons_zero]; rfl) (by kernel_rfl) (by kernel_rfl) (by kernel_rfl) (by intro _ _ _ h; exact h) (Or.inl ⟨by rfl, ?_⟩) hHeld ?_
      rotate_left 1
      · intro wq hSw
        try dsimp only at hSw
        go_simp
        try (with_reducible rfl)
      try simp only [Act.put, List.setIfInBounds_toArray, List.set_cons_zero, List.set_cons_succ]
      refine wpAnyH_take (i := 7) (v := ?_) (by simp only [List.getElem?_toArray, List.getElem?_cons_succ, List.getElem?_cons_zero]; rfl) (by kernel_rfl) (by kernel_rfl) (by kernel_rfl) (by intro _ _ _ h; exact h) (Or.inl ⟨by rfl, ?_⟩) hHeld ?_
      rotate_left 1
      · intro wq hSw
        try dsimp only at hSw
        have y0 := (hSw.cell hgx).trans e0
        have y1 := (hSw.cell hgx).trans e1
        have y2 := (hSw.cell hgx).trans e2
        go_simp
        try (with_reducible rfl)
      try simp only [Act.put, List.setIfInBounds_toArray, List.set_cons_zero, List.set_cons_succ]
      refine wpAnyH_ready (rs := [8]) (by kernel_rfl) (by simp) ?_
      refine AllReadyH.cons (by simp only [List.getElem?_toArray, List.getElem?_cons_succ, List.getElem?_cons_zero]; rfl) (fun K hK => ?_) AllReadyH.nil
      have hC := recSame_any rx.k rx.s Ai rx.l.length ci rx.l rx.k rx.s Ax rx.l.length cx rx.l wd (hS.below bd) (hX.below bd)
      rw [sameR_self] at hC
      go_simp
      refine hC.mono ?_
      clear hC
      rintro e w5 ⟨rfl, b5⟩
      go_wp2_with fail
      refine hK.out _ _ (bd.trans (b5.mono bd.size)) (fun hHeld => ?_)
      clear hK K
      try dsimp only at hHeld
      try simp only [Act.put, List.setIfInBounds_toArray, List.set_cons_zero, List.set_cons_succ]
      refine wpAnyH_take (i := 9) (v := ?_) (by simp only [List.getElem?_toArray, List.getElem?_cons_succ, List.getElem?_cons_zero]; rfl) (by kernel_rfl) (by kernel_rfl) (by kernel_rfl) (by intro _ _ _ h; exact h) (Or.inl ⟨by rfl, ?_⟩) hHeld ?_
      rotate_left 1
      · intro wq hSw
        try dsimp only at hSw
        go_simp
        try (with_reducible rfl)
      try simp only [Act.put, List.setIfInBounds_toArray, List.set_cons_zero, List.set_cons_succ]
      refine wpAnyH_done (by kernel_rfl) ?_ _
      go_wp2
      go_roundg g
      case measure => omega
      case rel => exact ⟨k + 1, by have := hk.out; omega, by first | rfl | (simp; done), br.trans (hHeld.mono br.size)⟩
    · go_wp2
      go_ret
      exact ⟨rfl, br⟩
end Go.Proofs.YtjhpjhgofmlecaaDoor
