/-
  The document's New, Check, Limit, Read (written by gen_ref4c.py).
-/
import Derived.Test.YtnjekhnheihooaaRef4b
namespace Go.Proofs.Ytnjekhnheihooaa
open Go.RowKit Go.Wag
set_option linter.unusedVariables false

theorem refNew4_any (n size : Int) (w : World) : Calls Try.prog 13 #[.int .i64 n, .int .i64 size] w (NewPost w n size) := by
  have B0 := Blk.new w #[.int .i64 0, .slice none 0 0, .int .i64 0, .bool false, .int .i64 0] 25
  have b0 := (Below.refl w.heap.size w).alloc (Nat.le_refl _) (.cells #[.int .i64 0, .slice none 0 0, .int .i64 0, .bool false, .int .i64 0] 25)
  have hs0 : (w.alloc (.cells #[.int .i64 0, .slice none 0 0, .int .i64 0, .bool false, .int .i64 0] 25)).heap.size = w.heap.size + 1 := by simp
  obtain ⟨r0, r1, r2, r3, r4, g0, g1, g2, g3, g4⟩ := B0.five
  by_cases hm : 1 ≤ n ∧ n ≤ 64 ∧ 1 ≤ size ∧ size ≤ 1048576
  · have hmt : Hid (mayF n size = true) := by show mayF n size = true; rw [mayF]; exact decide_eq_true hm
    obtain ⟨k, rfl⟩ : ∃ k : Nat, n = k := ⟨n.toNat, by omega⟩
    obtain ⟨h1, h2, h3, h4⟩ := hm
    have hmk := run_mkz k (by omega)
    go_enter Try.func13, Try.ntmps13
    go_wp2
    try simp only [Exit.inBlock, Exit.then]
    refine ret_blk2 rfl rfl ((Blk.new _ _ _).alloc _) Try.underlying25 (by kernel_rfl) rfl (Or.inl ⟨hmt.out, w.heap.size + 1, ?_, ?_, ?_⟩)
    · simp
    · exact Zo.made_at _ k 46 _ (by simp) _ (by omega)
    · exact (((Below.refl w.heap.size w).alloc (Nat.le_refl _) _).alloc (by simp) _)
  · have hmf : Hid (mayF n size = false) := by show mayF n size = false; rw [mayF]; exact decide_eq_false hm
    go_enter Try.func13, Try.ntmps13
    go_wp2
    all_goals
      try simp only [Exit.inBlock, Exit.then]
      first
        | (exfalso; omega)
        | exact ret_blk2 rfl rfl (Blk.new _ _ _) Try.underlying25 (by kernel_rfl) rfl (Or.inr ⟨hmf.out, rfl, b0⟩)
        | exact ret_blk2 rfl rfl (((((B0.set 0 _).set 1 _).set 2 _).set 3 _).set 4 _) Try.underlying25 (by kernel_rfl) rfl (Or.inr ⟨hmf.out, rfl, ((((b0.setCell (Nat.le_refl _) _).setCell (Nat.le_refl _) _).setCell (Nat.le_refl _) _).setCell (Nat.le_refl _) _).setCell (Nat.le_refl _) _⟩)

set_option maxRecDepth 20000 in
set_option maxHeartbeats 2000000 in
theorem refCheck4_any {F : Nat → Prop} (size lf dn : Int) (dw : Bool) (A : Option Addr) (n c : Nat) (zs : List Zp) (w : World) (h : Zs F w A n c zs) :
    Calls Try.prog 27 #[.agg #[.int .i64 size, .slice A n c, .int .i64 lf, .bool dw, .int .i64 dn]] w fun e w' => e = .returned (.bool (devF size zs)) ∧ Below w.heap.size w w' := by
  have hlen := h.len
  subst hlen
  have hbig := h.big
  have hcap := h.cap
  have Ba := Blk.new w #[.int .i64 size, .slice A zs.length c, .int .i64 lf, .bool dw, .int .i64 dn] 25
  have bb := (Below.refl w.heap.size w).alloc (Nat.le_refl _) (.cells #[.int .i64 size, .slice A zs.length c, .int .i64 lf, .bool dw, .int .i64 dn] 25)
  replace h := h.below bb
  obtain ⟨p0, p1, p2, p3, p4, _⟩ := Ba.five
  go_enter Try.func27, Try.ntmps27
  by_cases hm : 1 ≤ (zs.length : Int) ∧ (zs.length : Int) ≤ 64 ∧ 1 ≤ size ∧ size ≤ 1048576
  · have hmt : Hid (mayF zs.length size = true) := by show mayF zs.length size = true; rw [mayF]; exact decide_eq_true hm
    obtain ⟨h1, h2, h3, h4⟩ := hm
    go_wp2_with fail
    clear p0 p1 p2 p3 p4
    generalize w.alloc (.cells #[.int .i64 size, .slice A zs.length c, .int .i64 lf, .bool dw, .int .i64 dn] 25) = w0 at *
    go_loopg [3] zs.length (fun g i wr => ∃ k : Nat, k + g = zs.length ∧ i = .int .i64 (k : Int) ∧ Hid ((zs.take k).all (zchk size) = true) ∧ Below w0.heap.size w0 wr)
    case atStart => exact ⟨0, by omega, rfl, rfl, Below.refl _ _⟩
    case round =>
      obtain ⟨k, hk, rfl, hall, br⟩ := hrel
      replace Ba := Ba.under br
      replace h := h.below br
      replace bb := bb.trans (br.mono bb.size)
      obtain ⟨p0, p1, p2, p3, p4, _⟩ := Ba.five
      by_cases hlt : (k : Int) < (zs.length : Int)
      · obtain ⟨g, rfl⟩ : ∃ g, gk = g + 1 := ⟨gk - 1, by omega⟩
        obtain ⟨gb, o, z, Ai, ci, rfl, _, hg, hz, c0, c1, c2, c3, hS, _⟩ := h.at_ (show k < zs.length by omega)
        replace hk : Hid _ := hk
        have hk1 : Hid (zs.take (k + 1) = zs.take k ++ [z]) := by
          show _ = _
          rw [List.take_add_one, hz]; rfl
        have hmem : Hid (z ∈ zs) := List.mem_of_getElem? hz
        clear hz
        go_wp2_with fail
        clear p0 p1 p2 p3 p4
        refine wp_region_held_drew (S := fun w' => Below wr.heap.size wr w') (by kernel_rfl) (Below.refl _ _).drew (fun hHeld => ?_)
        try dsimp only at hHeld
        have bd : Below wr.heap.size wr wr.drew := (Below.refl wr.heap.size wr).drew
        generalize wr.drew = wd at *
        try simp only [Act.put, List.setIfInBounds_toArray, List.set_cons_zero, List.set_cons_succ]
        refine wpAnyH_take (i := 0) (v := ?_) (by simp only [List.getElem?_toArray, List.getElem?_cons_zero]; rfl) (by kernel_rfl) (by kernel_rfl) (by kernel_rfl) (by intro _ _ _ h; exact h) (Or.inl ⟨by rfl, ?_⟩) hHeld ?_
        rotate_left 1
        · intro wq hSw
          try dsimp only at hSw
          go_simp
          try (with_reducible rfl)
        try simp only [Act.put, List.setIfInBounds_toArray, List.set_cons_zero, List.set_cons_succ]
        refine wpAnyH_take (i := 1) (v := ?_) (by simp only [List.getElem?_toArray, List.getElem?_cons_succ, List.getElem?_cons_zero]; rfl) (by kernel_rfl) (by kernel_rfl) (by kernel_rfl) (by intro _ _ _ h; exact h) (Or.inl ⟨by rfl, ?_⟩) hHeld ?_
        rotate_left 1
        · intro wq hSw
          try dsimp only at hSw
          obtain ⟨x0, x1, x2, x3, x4, _⟩ := (Ba.under hSw).five
          go_simp
          try (with_reducible rfl)
        try simp only [Act.put, List.setIfInBounds_toArray, List.set_cons_zero, List.set_cons_succ]
        refine wpAnyH_take (i := 2) (v := ?_) (by simp only [List.getElem?_toArray, List.getElem?_cons_succ, List.getElem?_cons_zero]; rfl) (by kernel_rfl) (by kernel_rfl) (by kernel_rfl) (by intro _ _ _ h; exact h) (Or.inl ⟨by rfl, ?_⟩) hHeld ?_
        rotate_left 1
        · intro wq hSw
          try dsimp only at hSw
          go_simp
          try (with_reducible rfl)
        try simp only [Act.put, List.setIfInBounds_toArray, List.set_cons_zero, List.set_cons_succ]
        refine wpAnyH_take (i := 3) (v := ?_) (by simp only [List.getElem?_toArray, List.getElem?_cons_succ, List.getElem?_cons_zero]; rfl) (by kernel_rfl) (by kernel_rfl) (by kernel_rfl) (by intro _ _ _ h; exact h) (Or.inl ⟨by rfl, ?_⟩) hHeld ?_
        rotate_left 1
        · intro wq hSw
          try dsimp only at hSw
          go_simp
          try (with_reducible rfl)
        try simp only [Act.put, List.setIfInBounds_toArray, List.set_cons_zero, List.set_cons_succ]
        refine wpAnyH_take (i := 4) (v := ?_) (by simp only [List.getElem?_toArray, List.getElem?_cons_succ, List.getElem?_cons_zero]; rfl) (by kernel_rfl) (by kernel_rfl) (by kernel_rfl) (by intro _ _ _ h; exact h) (Or.inl ⟨by rfl, ?_⟩) hHeld ?_
        rotate_left 1
        · intro wq hSw
          try dsimp only at hSw
          have y0 := (hSw.cell hg).trans c0
          have y1 := (hSw.cell hg).trans c1
          have y2 := (hSw.cell hg).trans c2
          have y3 := (hSw.cell hg).trans c3
          go_simp
          try (with_reducible rfl)
        try simp only [Act.put, List.setIfInBounds_toArray, List.set_cons_zero, List.set_cons_succ]
        refine wpAnyH_take (i := 5) (v := ?_) (by simp only [List.getElem?_toArray, List.getElem?_cons_succ, List.getElem?_cons_zero]; rfl) (by kernel_rfl) (by kernel_rfl) (by kernel_rfl) (by intro _ _ _ h; exact h) (Or.inl ⟨by rfl, ?_⟩) hHeld ?_
        rotate_left 1
        · intro wq hSw
          try dsimp only at hSw
          go_simp
          try (with_reducible rfl)
        try simp only [Act.put, List.setIfInBounds_toArray, List.set_cons_zero, List.set_cons_succ]
        refine wpAnyH_take (i := 6) (v := ?_) (by simp only [List.getElem?_toArray, List.getElem?_cons_succ, List.getElem?_cons_zero]; rfl) (by kernel_rfl) (by kernel_rfl) (by kernel_rfl) (by intro _ _ _ h; exact h) (Or.inl ⟨by rfl, ?_⟩) hHeld ?_
        rotate_left 1
        · intro wq hSw
          try dsimp only at hSw
          obtain ⟨x0, x1, x2, x3, x4, _⟩ := (Ba.under hSw).five
          go_simp
          try (with_reducible rfl)
        try simp only [Act.put, List.setIfInBounds_toArray, List.set_cons_zero, List.set_cons_succ]
        refine wpAnyH_ready (rs := [7]) (by kernel_rfl) (by simp) ?_
        refine AllReadyH.cons (by simp only [List.getElem?_toArray, List.getElem?_cons_succ, List.getElem?_cons_zero]; rfl) (fun K hK => ?_) AllReadyH.nil
        have hC := refCheck3_any z.st z.rs z.la size Ai z.l.length ci wd
        go_simp
        refine hC.mono ?_
        clear hC
        rintro e w5 ⟨rfl, b5⟩
        go_wp2_with fail
        refine hK.out _ _ (bd.trans (b5.mono bd.size)) (fun hHeld => ?_)
        clear hK K
        try dsimp only at hHeld
        try simp only [Act.put, List.setIfInBounds_toArray, List.set_cons_zero, List.set_cons_succ]
        refine wpAnyH_take (i := 8) (v := ?_) (by simp only [List.getElem?_toArray, List.getElem?_cons_succ, List.getElem?_cons_zero]; rfl) (by kernel_rfl) (by kernel_rfl) (by kernel_rfl) (by intro _ _ _ h; exact h) (Or.inl ⟨by rfl, ?_⟩) hHeld ?_
        rotate_left 1
        · intro wq hSw
          try dsimp only at hSw
          go_simp
          try (with_reducible rfl)
        try simp only [Act.put, List.setIfInBounds_toArray, List.set_cons_zero, List.set_cons_succ]
        refine wpAnyH_done (by kernel_rfl) ?_ _
        cases hc : chkF z.st z.rs z.l.length z.la size with
        | false =>
          go_wp2
          go_ret
          refine ⟨?_, bb.trans (hHeld.mono bb.size)⟩
          have h5 : zs.all (zchk size) = false := by
            rw [List.all_eq_false]
            exact ⟨z, hmem.out, by simp [zchk, hc]⟩
          rw [devF, h5, Bool.and_false]
          rfl
        | true =>
          go_wp2
          go_roundg g
          case measure => omega
          case rel =>
            refine ⟨k + 1, by have := hk.out; omega, by first | rfl | (simp; done) | (simp; exact wrap64_small (by omega) (by omega)), ?_, br.trans (hHeld.mono br.size)⟩
            show _ = true
            rw [hk1.out, List.all_append, hall.out]
            simp [zchk, hc]
      · have hkk : k = zs.length := by omega
        have hall := hall.out
        rw [hkk, List.take_length] at hall
        have h5 : Hid (devF size zs = true) := by show devF size zs = true; rw [devF, hmt.out, hall]; rfl
        clear hall hkk
        go_wp2
        go_ret
        exact ⟨by rw [h5.out]; rfl, bb⟩
  · have h5 : Hid (devF size zs = false) := by show devF size zs = false; rw [devF, mayF, decide_eq_false hm]; rfl
    go_wp2
    all_goals first
      | (exfalso; omega)
      | (go_ret; exact ⟨by rw [h5.out]; rfl, bb⟩)

/-- A device in memory of its own, alone. -/
def DC (w : World) (size lf dn : Int) (dw : Bool) (zs : List Zp) (m : Nat) (e : Ending) (w' : World) : Prop :=
  ∃ A c, e = .returned (.agg #[.int .i64 size, .slice A m c, .int .i64 lf, .bool dw, .int .i64 dn]) ∧ Zs (fun b => w.heap.size ≤ b) w' A m c zs ∧ Below w.heap.size w w'

theorem refLimit4_any {F : Nat → Prop} (size lf dn left : Int) (dw : Bool) (A : Option Addr) (n c : Nat) (zs : List Zp) (w : World) (h : Zs F w A n c zs) (hsm : Sm zs) :
    Calls Try.prog 20 #[.agg #[.int .i64 size, .slice A n c, .int .i64 lf, .bool dw, .int .i64 dn], .int .i64 left] w (DC w size left dn dw zs n) := by
  have B1 := Blk.new (w.alloc (.cells #[.int .i64 size, .slice A n c, .int .i64 lf, .bool dw, .int .i64 dn] 25)) #[.int .i64 0, .slice none 0 0, .int .i64 0, .bool false, .int .i64 0] 25
  have b0 := ((Below.refl w.heap.size w).alloc (Nat.le_refl _) (.cells #[.int .i64 size, .slice A n c, .int .i64 lf, .bool dw, .int .i64 dn] 25)).alloc (by simp) (.cells #[.int .i64 0, .slice none 0 0, .int .i64 0, .bool false, .int .i64 0] 25)
  have hs0 : ((w.alloc (.cells #[.int .i64 size, .slice A n c, .int .i64 lf, .bool dw, .int .i64 dn] 25)).alloc (.cells #[.int .i64 0, .slice none 0 0, .int .i64 0, .bool false, .int .i64 0] 25)).heap.size = w.heap.size + 2 := by simp
  simp only [World.size_alloc] at B1
  replace h := h.below b0
  go_enter Try.func20, Try.ntmps20
  go_wp2_with fail
  generalize ((w.alloc (.cells #[.int .i64 size, .slice A n c, .int .i64 lf, .bool dw, .int .i64 dn] 25)).alloc (.cells #[.int .i64 0, .slice none 0 0, .int .i64 0, .bool false, .int .i64 0] 25)) = w0 at *
  refine (refCopy4_any size lf dn dw A n c zs w0 h hsm).mono ?_
  rintro e w1 ⟨A1, c1, rfl, Z1, _, b1⟩
  have B1' := B1.under b1
  have b2 := b0.trans (b1.mono (by omega))
  have hlt := B1'.lt
  obtain ⟨r0, r1, r2, r3, r4, g0, g1, g2, g3, g4⟩ := B1'.five
  replace Z1 := Z1.imp (F' := fun b => w.heap.size ≤ b ∧ b ≠ w.heap.size + 1) (fun b _ hb => ⟨by omega, by omega⟩)
  go_wp2
  try simp only [Exit.inBlock, Exit.then]
  refine ret_blk rfl rfl ((((((B1'.set 0 _).set 1 _).set 2 _).set 3 _).set 4 _).alloc _) Try.underlying25 (by kernel_rfl) ⟨A1, c1, rfl, ?_, (((((b2.setCell (by simp) _).setCell (by simp) _).setCell (by simp) _).setCell (by simp) _).setCell (by simp) _).alloc (by simp [World.setCell]; exact b2.size) _⟩
  exact ((((((Z1.far (a := ⟨w.heap.size + 1, 0, none⟩) (fun h => h.2 rfl) _).far (a := ⟨w.heap.size + 1, 1, none⟩) (fun h => h.2 rfl) _).far (a := ⟨w.heap.size + 1, 2, none⟩) (fun h => h.2 rfl) _).far (a := ⟨w.heap.size + 1, 3, none⟩) (fun h => h.2 rfl) _).far (a := ⟨w.heap.size + 1, 4, none⟩) (fun h => h.2 rfl) _).alloc _).imp (fun b _ hb => hb.1)
end Go.Proofs.Ytnjekhnheihooaa
