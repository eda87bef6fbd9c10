/-
  ZoneMay: the walk (written by gen_zonemay.py).
-/
import Derived.Test.YtepknniflkmjnaaZoneDone
import Derived.Test.YtepknniflkmjnaaSteps
import Derived.Test.YtepknniflkmjnaaStore
import Derived.Deep.LoopGhost
namespace Go.Proofs.Ytepknniflkmjnaa
open Go.RowKit Go.Wag
set_option linter.unusedVariables false

/-- y's bytes are z's, or new since wr, and then not in block kv. -/
def Yd (wr w' : World) (kv : Nat) (A : Option Addr) (c : Nat) (l : List UInt8) (A' : Option Addr) (c' : Nat) (l' : List UInt8) : Prop :=
  (A' = A ∧ c' = c ∧ l' = l) ∨ (Nw 5 wr w' A' l'.length c' (l'.map v8) ∧ ∀ ad, A' = some ad → ad.block ≠ kv)
theorem Yd.far {wr w' : World} {kv : Nat} {A : Option Addr} {c : Nat} {l : List UInt8} {A' : Option Addr} {c' : Nat} {l' : List UInt8} (h : Yd wr w' kv A c l A' c' l') (i : Nat) (u : Value) : Yd wr (w'.setCell ⟨kv, i, none⟩ u) kv A c l A' c' l' := by
  rcases h with h | ⟨h, hne⟩
  · exact .inl h
  · exact .inr ⟨h.far (a := ⟨kv, i, none⟩) hne u, hne⟩
theorem Yd.sl {wr w' : World} {kv : Nat} {A : Option Addr} {c : Nat} {l : List UInt8} {A' : Option Addr} {c' : Nat} {l' : List UInt8} (h : Yd wr w' kv A c l A' c' l') (s : Sl wr A l.length c (l.map v8)) (b : Below wr.heap.size wr w') : Sl w' A' l'.length c' (l'.map v8) := by
  rcases h with ⟨rfl, rfl, rfl⟩ | ⟨h, _⟩
  · exact s.below b
  · exact h.sl
theorem Yd.ne {wr w' : World} {kv kz : Nat} {A : Option Addr} {c : Nat} {l : List UInt8} {A' : Option Addr} {c' : Nat} {l' : List UInt8} (h : Yd wr w' kv A c l A' c' l') (hA : l.length = 0 ∨ ∀ ad, A = some ad → ad.block ≠ kz) (hk : kz < wr.heap.size) : l'.length = 0 ∨ ∀ ad, A' = some ad → ad.block ≠ kz := by
  rcases h with ⟨rfl, rfl, rfl⟩ | ⟨h, _⟩
  · exact hA
  · refine .inr ?_
    intro ad e
    have := h.fr ad e
    omega
theorem yd_after {wr cur w' : World} {kv : Nat} {A : Option Addr} {c : Nat} {l : List UInt8} {A' : Option Addr} {c' : Nat} {l' : List UInt8} (h : (A' = A ∧ c' = c ∧ l' = l) ∨ Nw 5 cur w' A' l'.length c' (l'.map v8)) (hb : wr.heap.size ≤ cur.heap.size) (hk : kv < cur.heap.size) : Yd wr w' kv A c l A' c' l' := by
  rcases h with h | h
  · exact .inl h
  · exact .inr ⟨h.mono hb, nw_ne h hk⟩
theorem yd_new {wr cur w' : World} {A : Option Addr} {c : Nat} {l : List UInt8} {A' : Option Addr} {c' : Nat} {l' : List UInt8} (h : (A' = A ∧ c' = c ∧ l' = l) ∨ Nw 5 cur w' A' l'.length c' (l'.map v8)) (hb : wr.heap.size ≤ cur.heap.size) : (A' = A ∧ c' = c ∧ l' = l) ∨ Nw 5 wr w' A' l'.length c' (l'.map v8) := by
  rcases h with h | h
  · exact .inl h
  · exact .inr (h.mono hb)
theorem yd_alloc {wr w' : World} {kv : Nat} {A : Option Addr} {c : Nat} {l : List UInt8} {A' : Option Addr} {c' : Nat} {l' : List UInt8} (h : (A' = A ∧ c' = c ∧ l' = l) ∨ Nw 5 wr w' A' l'.length c' (l'.map v8)) (hk : w'.heap.size ≤ kv) (o : Obj) : Yd wr (w'.alloc o) kv A c l A' c' l' := by
  rcases h with h | h
  · exact .inl h
  · exact .inr ⟨h.alloc o, ownA_ne h hk⟩
theorem sl_farz {w' : World} {A : Option Addr} {n c : Nat} {xs : List Value} (h : Sl w' A n c xs) {a : Addr} (ha : n = 0 ∨ ∀ ad, A = some ad → ad.block ≠ a.block) (u : Value) : Sl (w'.setCell a u) A n c xs := by
  rcases ha with h0 | h0
  · exact ⟨h.len, h.cap, h.big, fun hn => absurd hn (by omega)⟩
  · exact h.far h0 u
/-- The three cells of step i. -/
theorem sts_at {w : World} {a : Option Addr} {len cap i : Nat} (h : IsSts [.num .i64, .row .u8, .num .i64] w a len cap) (hi : i < len) : ∃ (ab ao : Nat) (kd : Int) (Ab : Option Addr) (nb cb : Nat) (b : List UInt8) (N : Int), a = some ⟨ab, ao, none⟩ ∧ len ≤ cap ∧ ab < w.heap.size ∧
    w.cell? ⟨ab, ao + i * 3, none⟩ = some (.int .i64 kd) ∧ w.cell? ⟨ab, ao + i * 3 + 1, none⟩ = some (.slice Ab nb cb) ∧ w.cell? ⟨ab, ao + i * 3 + 2, none⟩ = some (.int .i64 N) ∧ Sl w Ab nb cb (b.map v8) ∧ -9223372036854775808 ≤ N ∧ N < 9223372036854775808 := by
  rcases h with ⟨_, h0, _⟩ | ⟨ad, rfl, hl, _, hc⟩
  · omega
  · obtain ⟨v0, c0, kd, rfl, _⟩ := hc i hi 0 _ rfl
    obtain ⟨v1, c1, Ab, nb, cb, zs, rfl, hr⟩ := hc i hi 1 _ rfl
    obtain ⟨v2, c2, N, rfl, hN⟩ := hc i hi 2 _ rfl
    obtain ⟨b, hb⟩ := hr.bytes
    obtain ⟨ab, ao, sp⟩ := ad
    have hblk : ab < w.heap.size := by
      by_cases hx : ab < w.heap.size
      · exact hx
      · exfalso
        unfold World.cell? at c0
        rw [add_block, Array.getElem?_eq_none (by simp; omega)] at c0
        cases c0
    cases sp with
    | none =>
      refine ⟨ab, ao, kd, Ab, nb, cb, b, N, rfl, hl, hblk, ?_, ?_, ?_, hb, (wf_i64 hN).1, (wf_i64 hN).2⟩
      · rw [Addr.add_lit] at c0; exact c0
      · rw [Addr.add_lit, ← Nat.add_assoc] at c1; exact c1
      · rw [Addr.add_lit, ← Nat.add_assoc] at c2; exact c2
    | some sp =>
      exfalso
      obtain ⟨v, cz, _⟩ := hc 0 (by omega) 0 _ rfl
      unfold World.cell? at cz
      split at cz
      · simp [Addr.add] at cz
      · cases cz

set_option maxRecDepth 100000 in
set_option maxHeartbeats 4000000 in
theorem ZoneMay_core (st rs la size : Int) (A : Option Addr) (c : Nat) (l : List UInt8) (a2 : Option Addr) (len cap : Nat) (w : World) (s0 : Sl w A l.length c (l.map v8)) (hS : IsSts [.num .i64, .row .u8, .num .i64] w a2 len cap) :
    Calls Try.prog 5 #[.agg #[.int .i64 st, .int .i64 rs, .slice A l.length c, .int .i64 la], .int .i64 size, .slice a2 len cap] w (AwakePost w) := by
  have hAw : l.length = 0 ∨ ∀ ad, A = some ad → ad.block < w.heap.size := by
    rcases Nat.eq_zero_or_pos l.length with h0 | h0
    · exact .inl h0
    · obtain ⟨ad, rfl, hb, _⟩ := s0.cells h0
      exact .inr (fun ad' e => by cases e; exact hb)
  have bb := Below.refl w.heap.size w
  go_enter Try.func5, Try.ntmps5
  replace s0 := s0.alloc (.cells #[.int .i64 st, .int .i64 rs, .slice A l.length c, .int .i64 la] 25)
  replace bb := bb.alloc bb.size (.cells #[.int .i64 st, .int .i64 rs, .slice A l.length c, .int .i64 la] 25)
  have Bz := Blk.new w #[.int .i64 st, .int .i64 rs, .slice A l.length c, .int .i64 la] 25
  go_wp2_with fail
  generalize (w.alloc (.cells #[.int .i64 st, .int .i64 rs, .slice A l.length c, .int .i64 la] 25)) = W1 at *
  have hC := awake3_any W1
  refine hC.mono ?_
  clear hC
  rintro e w1 ⟨rfl, ba⟩
  replace s0 := s0.below ba
  replace Bz := Bz.under ba
  replace bb := bb.trans (ba.mono bb.size)
  by_cases hbad : 300 < (l.length : Int)
  · obtain ⟨z0, z1, z2, z3, _⟩ := Bz.four
    go_wp2
    go_ret
    exact ⟨rfl, bb⟩
  obtain ⟨Bzq0, Bzq1, Bzq2, Bzq3, Bzr0, Bzr1, Bzr2, Bzr3⟩ := Bz.four
  have Bzl := Bz.lt
  go_wp2_with fail
  clear Bzq0 Bzq1 Bzq2 Bzq3 Bzr0 Bzr1 Bzr2 Bzr3
  have hC := zCheck_any st rs la size A l.length c w1
  refine hC.mono ?_
  clear hC
  rintro e w2 ⟨rfl, bc⟩
  replace s0 := s0.below bc
  replace Bz := Bz.under bc
  replace bb := bb.trans (bc.mono bb.size)
  cases hc : chkF st rs l.length la size
  · go_wp2
    go_ret
    exact ⟨rfl, bb⟩
  replace hc : Hid (chkF st rs l.length la size = true) := hc
  have hAz : l.length = 0 ∨ ∀ ad, A = some ad → ad.block ≠ w.heap.size := by
    rcases hAw with h0 | h0
    · exact .inl h0
    · exact .inr (fun ad e => Nat.ne_of_lt (h0 ad e))
  clear hAw
  go_wp2_with fail
  go_loopg [8] len (fun g i wr => ∃ k : Nat, k + g = len ∧ i = .int .i64 (k : Int) ∧ ∃ (st rs la : Int) (A : Option Addr) (c : Nat) (l : List UInt8), Blk wr w.heap.size #[.int .i64 st, .int .i64 rs, .slice A l.length c, .int .i64 la] 25 ∧ Sl wr A l.length c (l.map v8) ∧ (l.length = 0 ∨ ∀ ad, A = some ad → ad.block ≠ w.heap.size) ∧ Hid (chkF st rs l.length la size = true) ∧ Below w.heap.size w wr)
  case atStart => exact ⟨0, by omega, rfl, st, rs, la, A, c, l, Bz, s0, hAz, hc, bb⟩
  case round =>
    clear Bz s0 hAz hc bb hbad
    skip
    obtain ⟨k, hk, rfl, st, rs, la, A, c, l, Bz, s0, hA, hc, bb⟩ := hrel
    obtain ⟨z0, z1, z2, z3, y0, y1, y2, y3⟩ := Bz.four
    by_cases hlt : (k : Int) < (len : Int)
    · by_cases h50 : (k : Int) < 50
      · obtain ⟨g, rfl⟩ : ∃ g, gk = g + 1 := ⟨gk - 1, by omega⟩
        obtain ⟨ab, ao, kd, Ab, nb, cb, bs, N, rfl, hlc, hab, c0', c1', c2', hbs, hN0, hN1⟩ := sts_at hS (show k < len by omega)
        have c0 : wr.cell? ⟨ab, ao + k * 3, none⟩ = some (.int .i64 kd) := (bb.cell hab).trans c0'
        have c1 : wr.cell? ⟨ab, ao + k * 3 + 1, none⟩ = some (.slice Ab nb cb) := (bb.cell hab).trans c1'
        have c2 : wr.cell? ⟨ab, ao + k * 3 + 2, none⟩ = some (.int .i64 N) := (bb.cell hab).trans c2'
        replace hbs := hbs.below bb
        by_cases hnb : 300 < (nb : Int)
        · go_wp2
          go_ret
          exact ⟨rfl, bb⟩
        go_wp2_with fail
        refine region_join (α := Nat → Int → Int → Int → Option Addr → Nat → List UInt8 → Act) (R := fun T a w' => ∃ kv st' rs' la' A' c' l', a = T kv st' rs' la' A' c' l' ∧ Blk w' kv #[.int .i64 st', .int .i64 rs', .slice A' l'.length c', .int .i64 la'] 25 ∧ Yd wr w' kv A c l A' c' l' ∧ Hid (StepOk kd rs l la st' rs' l' la' size) ∧ wr.heap.size ≤ kv ∧ Below wr.heap.size wr w') ?TY ?bodyY ?restY
        case bodyY =>
          refine wp_region_held_drew (S := fun w' => Below wr.heap.size wr w') (by kernel_rfl) (Below.refl _ _).drew (fun hHeld => ?_)
          have b := hHeld
          generalize wr.drew = wd at *
          try simp only [Act.put, List.setIfInBounds_toArray, List.set_cons_zero, List.set_cons_succ]
          refine wpAnyH_take (i := 0) (v := ?_) (by simp only [List.getElem?_toArray, List.getElem?_cons_zero]; rfl) (by kernel_rfl) (by kernel_rfl) (by kernel_rfl) (by intro _ _ _ h; exact nomatch h.1) (Or.inl ⟨by rfl, ?_⟩) hHeld ?_
          rotate_left 1
          · intro wq hSw
            try dsimp only at hSw
            obtain ⟨x0, x1, x2, x3, _⟩ := (Bz.under hSw).four
            go_simp
            try (with_reducible rfl)
          try simp only [Act.put, List.setIfInBounds_toArray, List.set_cons_zero, List.set_cons_succ]
          refine wpAnyH_take (i := 1) (v := ?_) (by simp only [List.getElem?_toArray, List.getElem?_cons_succ, List.getElem?_cons_zero]; rfl) (by kernel_rfl) (by kernel_rfl) (by kernel_rfl) (by intro _ _ _ h; exact nomatch h.1) (Or.inl ⟨by rfl, ?_⟩) hHeld ?_
          rotate_left 1
          · intro wq hSw
            try dsimp only at hSw
            go_simp
            try (with_reducible rfl)
          try simp only [Act.put, List.setIfInBounds_toArray, List.set_cons_zero, List.set_cons_succ]
          refine wpAnyH_take (i := 2) (v := ?_) (by simp only [List.getElem?_toArray, List.getElem?_cons_succ, List.getElem?_cons_zero]; rfl) (by kernel_rfl) (by kernel_rfl) (by kernel_rfl) (by intro _ _ _ h; exact nomatch h.1) (Or.inl ⟨by rfl, ?_⟩) hHeld ?_
          rotate_left 1
          · intro wq hSw
            try dsimp only at hSw
            go_simp
            try (with_reducible rfl)
          try simp only [Act.put, List.setIfInBounds_toArray, List.set_cons_zero, List.set_cons_succ]
          refine wpAnyH_take (i := 3) (v := ?_) (by simp only [List.getElem?_toArray, List.getElem?_cons_succ, List.getElem?_cons_zero]; rfl) (by kernel_rfl) (by kernel_rfl) (by kernel_rfl) (by intro _ _ _ h; exact nomatch h.1) (Or.inl ⟨by rfl, ?_⟩) hHeld ?_
          rotate_left 1
          · intro wq hSw
            try dsimp only at hSw
            go_simp
            try (with_reducible rfl)
          try simp only [Act.put, List.setIfInBounds_toArray, List.set_cons_zero, List.set_cons_succ]
          refine wpAnyH_take (i := 4) (v := ?_) (by simp only [List.getElem?_toArray, List.getElem?_cons_succ, List.getElem?_cons_zero]; rfl) (by kernel_rfl) (by kernel_rfl) (by kernel_rfl) (by intro _ _ _ h; exact nomatch h.1) (Or.inl ⟨by rfl, ?_⟩) hHeld ?_
          rotate_left 1
          · intro wq hSw
            try dsimp only at hSw
            go_simp
            try (with_reducible rfl)
          try simp only [Act.put, List.setIfInBounds_toArray, List.set_cons_zero, List.set_cons_succ]
          refine wpAnyH_take (i := 5) (v := ?_) (by simp only [List.getElem?_toArray, List.getElem?_cons_succ, List.getElem?_cons_zero]; rfl) (by kernel_rfl) (by kernel_rfl) (by kernel_rfl) (by intro _ _ _ h; exact nomatch h.1) (Or.inl ⟨by rfl, ?_⟩) hHeld ?_
          rotate_left 1
          · intro wq hSw
            try dsimp only at hSw
            have d0 : wq.cell? ⟨ab, ao + k * 3, none⟩ = some (.int .i64 kd) := (hSw.cell (Nat.lt_of_lt_of_le hab bb.size)).trans c0
            have d1 : wq.cell? ⟨ab, ao + k * 3 + 1, none⟩ = some (.slice Ab nb cb) := (hSw.cell (Nat.lt_of_lt_of_le hab bb.size)).trans c1
            have d2 : wq.cell? ⟨ab, ao + k * 3 + 2, none⟩ = some (.int .i64 N) := (hSw.cell (Nat.lt_of_lt_of_le hab bb.size)).trans c2
            go_simp
            try (with_reducible rfl)
          try simp only [Act.put, List.setIfInBounds_toArray, List.set_cons_zero, List.set_cons_succ]
          refine wpAnyH_ready (rs := [6, 7]) (by kernel_rfl) (by simp) ?_
          refine AllReadyH.cons (by simp only [List.getElem?_toArray, List.getElem?_cons_succ, List.getElem?_cons_zero]; rfl) (fun K hK => ?_) (AllReadyH.cons (by simp only [List.getElem?_toArray, List.getElem?_cons_succ, List.getElem?_cons_zero]; rfl) (fun K hK => ?_) AllReadyH.nil)
          · skip
            have hC := Done_any kd N Ab nb cb bs st rs la size A l.length c l wd hc.out (s0.below b) (hbs.below b) (by omega) hN0 hN1
            go_simp
            refine hC.mono ?_
            rintro e w_6_1 ⟨st', rs', la', A', c', l', rfl, hD, bC, hO⟩
            go_wp2_with fail
            have D := yd_new hD b.size
            replace b := b.trans (bC.mono b.size)
            clear hC hD bC
            refine hK.out _ _ b (fun hHeld => ?_)
            clear hK K
            try simp only [Act.put, List.setIfInBounds_toArray, List.set_cons_zero, List.set_cons_succ]
            refine wpAnyH_ready (rs := [7]) (by kernel_rfl) (by simp) ?_
            refine AllReadyH.cons (by simp only [List.getElem?_toArray, List.getElem?_cons_succ, List.getElem?_cons_zero]; rfl) (fun K hK => ?_) AllReadyH.nil
            obtain ⟨kv, hkv⟩ : ∃ k, w_6_1.heap.size = k := ⟨_, rfl⟩
            go_simp
            try simp only [hkv]
            have V := Blk.new w_6_1 #[.int .i64 0, .int .i64 0, .slice none 0 0, .int .i64 0] 25
            rw [hkv] at V
            have hcv : wr.heap.size ≤ kv := by rw [← hkv]; exact b.size
            have Y := yd_alloc D (Nat.le_of_eq hkv) (.cells #[.int .i64 0, .int .i64 0, .slice none 0 0, .int .i64 0] 25)
            replace b := b.alloc b.size (.cells #[.int .i64 0, .int .i64 0, .slice none 0 0, .int .i64 0] 25)
            generalize w_6_1.alloc (.cells #[.int .i64 0, .int .i64 0, .slice none 0 0, .int .i64 0] 25) = w_7_2 at *
            refine hK.out _ _ b (fun hHeld => ?_)
            clear hK K
            try simp only [Act.put, List.setIfInBounds_toArray, List.set_cons_zero, List.set_cons_succ]
            refine wpAnyH_ready (rs := [8]) (by kernel_rfl) (by simp) ?_
            refine AllReadyH.cons (by simp only [List.getElem?_toArray, List.getElem?_cons_succ, List.getElem?_cons_zero]; rfl) (fun K hK => ?_) AllReadyH.nil
            obtain ⟨q0, q1, q2, q3, i0', i1', i2', i3'⟩ := V.four
            go_simp
            have V2 := ((((V.set 0 (.int .i64 st')).set 1 (.int .i64 rs')).set 2 (.slice A' l'.length c')).set 3 (.int .i64 la'))
            simp only [List.setIfInBounds_toArray, List.set_cons_zero, List.set_cons_succ] at V2
            have Y2 := ((((Y.far 0 (.int .i64 st')).far 1 (.int .i64 rs')).far 2 (.slice A' l'.length c')).far 3 (.int .i64 la'))
            have b2 := ((((b.setCell (p := ⟨kv, 0, none⟩) hcv (.int .i64 st')).setCell (p := ⟨kv, 1, none⟩) hcv (.int .i64 rs')).setCell (p := ⟨kv, 2, none⟩) hcv (.slice A' l'.length c')).setCell (p := ⟨kv, 3, none⟩) hcv (.int .i64 la'))
            clear q0 q1 q2 q3 i0' i1' i2' i3'
            clear V Y b
            generalize ((((w_7_2.setCell ⟨kv, 0, none⟩ (.int .i64 st')).setCell ⟨kv, 1, none⟩ (.int .i64 rs')).setCell ⟨kv, 2, none⟩ (.slice A' l'.length c')).setCell ⟨kv, 3, none⟩ (.int .i64 la')) = w_8_3 at *
            have V := V2
            have Y := Y2
            have b := b2
            clear V2 Y2 b2
            refine hK.out _ _ b (fun hHeld => ?_)
            clear hK K
            try simp only [Act.put, List.setIfInBounds_toArray, List.set_cons_zero, List.set_cons_succ]
            refine wpAnyH_done (by kernel_rfl) ?_ _
            refine ⟨rfl, kv, st', rs', la', A', c', l', ?_, V, Y, hO, hcv, b⟩
            with_reducible rfl
          · skip
            obtain ⟨kv, hkv⟩ : ∃ k, wd.heap.size = k := ⟨_, rfl⟩
            go_simp
            try simp only [hkv]
            have V := Blk.new wd #[.int .i64 0, .int .i64 0, .slice none 0 0, .int .i64 0] 25
            rw [hkv] at V
            have hcv : wr.heap.size ≤ kv := by rw [← hkv]; exact b.size
            replace b := b.alloc b.size (.cells #[.int .i64 0, .int .i64 0, .slice none 0 0, .int .i64 0] 25)
            generalize wd.alloc (.cells #[.int .i64 0, .int .i64 0, .slice none 0 0, .int .i64 0] 25) = w_7_1 at *
            refine hK.out _ _ b (fun hHeld => ?_)
            clear hK K
            try simp only [Act.put, List.setIfInBounds_toArray, List.set_cons_zero, List.set_cons_succ]
            refine wpAnyH_ready (rs := [6]) (by kernel_rfl) (by simp) ?_
            refine AllReadyH.cons (by simp only [List.getElem?_toArray, List.getElem?_cons_succ, List.getElem?_cons_zero]; rfl) (fun K hK => ?_) AllReadyH.nil
            have hC := Done_any kd N Ab nb cb bs st rs la size A l.length c l w_7_1 hc.out (s0.below b) (hbs.below b) (by omega) hN0 hN1
            go_simp
            refine hC.mono ?_
            rintro e w_6_2 ⟨st', rs', la', A', c', l', rfl, hD, bC, hO⟩
            go_wp2_with fail
            have Y := yd_after hD b.size V.lt
            replace V := V.under bC
            replace b := b.trans (bC.mono b.size)
            clear hC hD bC
            refine hK.out _ _ b (fun hHeld => ?_)
            clear hK K
            try simp only [Act.put, List.setIfInBounds_toArray, List.set_cons_zero, List.set_cons_succ]
            refine wpAnyH_ready (rs := [8]) (by kernel_rfl) (by simp) ?_
            refine AllReadyH.cons (by simp only [List.getElem?_toArray, List.getElem?_cons_succ, List.getElem?_cons_zero]; rfl) (fun K hK => ?_) AllReadyH.nil
            obtain ⟨q0, q1, q2, q3, i0', i1', i2', i3'⟩ := V.four
            go_simp
            have V2 := ((((V.set 0 (.int .i64 st')).set 1 (.int .i64 rs')).set 2 (.slice A' l'.length c')).set 3 (.int .i64 la'))
            simp only [List.setIfInBounds_toArray, List.set_cons_zero, List.set_cons_succ] at V2
            have Y2 := ((((Y.far 0 (.int .i64 st')).far 1 (.int .i64 rs')).far 2 (.slice A' l'.length c')).far 3 (.int .i64 la'))
            have b2 := ((((b.setCell (p := ⟨kv, 0, none⟩) hcv (.int .i64 st')).setCell (p := ⟨kv, 1, none⟩) hcv (.int .i64 rs')).setCell (p := ⟨kv, 2, none⟩) hcv (.slice A' l'.length c')).setCell (p := ⟨kv, 3, none⟩) hcv (.int .i64 la'))
            clear q0 q1 q2 q3 i0' i1' i2' i3'
            clear V Y b
            generalize ((((w_6_2.setCell ⟨kv, 0, none⟩ (.int .i64 st')).setCell ⟨kv, 1, none⟩ (.int .i64 rs')).setCell ⟨kv, 2, none⟩ (.slice A' l'.length c')).setCell ⟨kv, 3, none⟩ (.int .i64 la')) = w_8_3 at *
            have V := V2
            have Y := Y2
            have b := b2
            clear V2 Y2 b2
            refine hK.out _ _ b (fun hHeld => ?_)
            clear hK K
            try simp only [Act.put, List.setIfInBounds_toArray, List.set_cons_zero, List.set_cons_succ]
            refine wpAnyH_done (by kernel_rfl) ?_ _
            refine ⟨rfl, kv, st', rs', la', A', c', l', ?_, V, Y, hO, hcv, b⟩
            with_reducible rfl
        rintro a w5 ⟨kv, st', rs', la', A', c', l', rfl, By, Y, hO, hkv, b5⟩
        try dsimp only
        have hkz := Bz.lt
        have sy := Y.sl s0 b5
        have hny := Y.ne hA hkz
        have sz := s0.below b5
        replace Bz := Bz.under b5
        replace bb := bb.trans (b5.mono bb.size)
        have e0 : w5.cell? ⟨ab, ao + k * 3, none⟩ = some (.int .i64 kd) := (bb.cell hab).trans c0'
        obtain ⟨mm, hmm⟩ : ∃ m : Nat, min l'.length l.length = m := ⟨_, rfl⟩
        have hm0 : min (l'.length : Int) (l.length : Int) = mm := by omega
        have hm1 : (if (l'.length : Int) ≤ (l.length : Int) then (l'.length : Int) else (l.length : Int)) = mm := by split <;> omega
        have hm2 : (if (l.length : Int) < (l'.length : Int) then (l.length : Int) else (l'.length : Int)) = mm := by split <;> omega
        have hm3 : (if l.length < l'.length then (l.length : Int) else (l'.length : Int)) = mm := by split <;> omega
        have hm4 : (if l'.length ≤ l.length then (l'.length : Int) else (l.length : Int)) = mm := by split <;> omega
        have hmc : mm ≤ c' := by have := sy.cap; omega
        have hmc2 : mm ≤ c := by have := sz.cap; omega
        have HY : Sl w5 A' mm c' ((l.take mm).map v8) := by
          have hx := sy.upto (m := mm) (by omega)
          rw [← List.map_take] at hx
          have hy := hO.out.2.1
          rw [hmm] at hy
          rw [← hy]
          exact hx
        have HZ : Sl w5 A mm c ((l.take mm).map v8) := by
          have hx := sz.upto (m := mm) (by omega)
          rw [← List.map_take] at hx
          exact hx
        clear c0 c1 c2 c1' c2'
        clear z0 z1 z2 z3 y0 y1 y2 y3
        obtain ⟨z0, z1, z2, z3, _⟩ := Bz.four
        obtain ⟨x0, x1, x2, x3, _⟩ := By.four
        go_wp2_with fail
        clear z0 z1 z2 z3 x0 x1 x2 x3 e0
        refine wp_region_held_drew (S := fun w' => Below w5.heap.size w5 w') (by kernel_rfl) (Below.refl _ _).drew (fun hHeld => ?_)
        have b := hHeld
        generalize w5.drew = wd at *
        try simp only [Act.put, List.setIfInBounds_toArray, List.set_cons_zero, List.set_cons_succ]
        refine wpAnyH_take (i := 0) (v := ?_) (by simp only [List.getElem?_toArray, List.getElem?_cons_zero]; rfl) (by kernel_rfl) (by kernel_rfl) (by kernel_rfl) (by intro _ _ _ h; exact h) (Or.inl ⟨by rfl, ?_⟩) hHeld ?_
        rotate_left 1
        · intro wq hSw
          try dsimp only at hSw
          go_simp
          try (with_reducible rfl)
        try simp only [Act.put, List.setIfInBounds_toArray, List.set_cons_zero, List.set_cons_succ]
        refine wpAnyH_take (i := 1) (v := ?_) (by simp only [List.getElem?_toArray, List.getElem?_cons_succ, List.getElem?_cons_zero]; rfl) (by kernel_rfl) (by kernel_rfl) (by kernel_rfl) (by intro _ _ _ h; exact h) (Or.inl ⟨by rfl, ?_⟩) hHeld ?_
        rotate_left 1
        · intro wq hSw
          try dsimp only at hSw
          obtain ⟨x0, x1, x2, x3, _⟩ := (By.under hSw).four
          go_simp
          try (with_reducible rfl)
        try simp only [Act.put, List.setIfInBounds_toArray, List.set_cons_zero, List.set_cons_succ]
        refine wpAnyH_take (i := 2) (v := ?_) (by simp only [List.getElem?_toArray, List.getElem?_cons_succ, List.getElem?_cons_zero]; rfl) (by kernel_rfl) (by kernel_rfl) (by kernel_rfl) (by intro _ _ _ h; exact h) (Or.inl ⟨by rfl, ?_⟩) hHeld ?_
        rotate_left 1
        · intro wq hSw
          try dsimp only at hSw
          go_simp
          try (with_reducible rfl)
        try simp only [Act.put, List.setIfInBounds_toArray, List.set_cons_zero, List.set_cons_succ]
        refine wpAnyH_take (i := 3) (v := ?_) (by simp only [List.getElem?_toArray, List.getElem?_cons_succ, List.getElem?_cons_zero]; rfl) (by kernel_rfl) (by kernel_rfl) (by kernel_rfl) (by intro _ _ _ h; exact h) (Or.inl ⟨by rfl, ?_⟩) hHeld ?_
        rotate_left 1
        · intro wq hSw
          try dsimp only at hSw
          go_simp
          try (with_reducible rfl)
        try simp only [Act.put, List.setIfInBounds_toArray, List.set_cons_zero, List.set_cons_succ]
        refine wpAnyH_take (i := 4) (v := ?_) (by simp only [List.getElem?_toArray, List.getElem?_cons_succ, List.getElem?_cons_zero]; rfl) (by kernel_rfl) (by kernel_rfl) (by kernel_rfl) (by intro _ _ _ h; exact h) (Or.inl ⟨by rfl, ?_⟩) hHeld ?_
        rotate_left 1
        · intro wq hSw
          try dsimp only at hSw
          have q := str_of (HY.below hSw)
          go_simp
          try (with_reducible rfl)
        try simp only [Act.put, List.setIfInBounds_toArray, List.set_cons_zero, List.set_cons_succ]
        refine wpAnyH_take (i := 5) (v := ?_) (by simp only [List.getElem?_toArray, List.getElem?_cons_succ, List.getElem?_cons_zero]; rfl) (by kernel_rfl) (by kernel_rfl) (by kernel_rfl) (by intro _ _ _ h; exact h) (Or.inl ⟨by rfl, ?_⟩) hHeld ?_
        rotate_left 1
        · intro wq hSw
          try dsimp only at hSw
          go_simp
          try (with_reducible rfl)
        try simp only [Act.put, List.setIfInBounds_toArray, List.set_cons_zero, List.set_cons_succ]
        refine wpAnyH_take (i := 6) (v := ?_) (by simp only [List.getElem?_toArray, List.getElem?_cons_succ, List.getElem?_cons_zero]; rfl) (by kernel_rfl) (by kernel_rfl) (by kernel_rfl) (by intro _ _ _ h; exact h) (Or.inl ⟨by rfl, ?_⟩) hHeld ?_
        rotate_left 1
        · intro wq hSw
          try dsimp only at hSw
          obtain ⟨x0, x1, x2, x3, _⟩ := (Bz.under hSw).four
          go_simp
          try (with_reducible rfl)
        try simp only [Act.put, List.setIfInBounds_toArray, List.set_cons_zero, List.set_cons_succ]
        refine wpAnyH_take (i := 7) (v := ?_) (by simp only [List.getElem?_toArray, List.getElem?_cons_succ, List.getElem?_cons_zero]; rfl) (by kernel_rfl) (by kernel_rfl) (by kernel_rfl) (by intro _ _ _ h; exact h) (Or.inl ⟨by rfl, ?_⟩) hHeld ?_
        rotate_left 1
        · intro wq hSw
          try dsimp only at hSw
          go_simp
          try (with_reducible rfl)
        try simp only [Act.put, List.setIfInBounds_toArray, List.set_cons_zero, List.set_cons_succ]
        refine wpAnyH_take (i := 8) (v := ?_) (by simp only [List.getElem?_toArray, List.getElem?_cons_succ, List.getElem?_cons_zero]; rfl) (by kernel_rfl) (by kernel_rfl) (by kernel_rfl) (by intro _ _ _ h; exact h) (Or.inl ⟨by rfl, ?_⟩) hHeld ?_
        rotate_left 1
        · intro wq hSw
          try dsimp only at hSw
          go_simp
          try (with_reducible rfl)
        try simp only [Act.put, List.setIfInBounds_toArray, List.set_cons_zero, List.set_cons_succ]
        refine wpAnyH_take (i := 9) (v := ?_) (by simp only [List.getElem?_toArray, List.getElem?_cons_succ, List.getElem?_cons_zero]; rfl) (by kernel_rfl) (by kernel_rfl) (by kernel_rfl) (by intro _ _ _ h; exact h) (Or.inl ⟨by rfl, ?_⟩) hHeld ?_
        rotate_left 1
        · intro wq hSw
          try dsimp only at hSw
          have q := str_of (HZ.below hSw)
          go_simp
          try (with_reducible rfl)
        try simp only [Act.put, List.setIfInBounds_toArray, List.set_cons_zero, List.set_cons_succ]
        refine wpAnyH_take (i := 10) (v := ?_) (by simp only [List.getElem?_toArray, List.getElem?_cons_succ, List.getElem?_cons_zero]; rfl) (by kernel_rfl) (by kernel_rfl) (by kernel_rfl) (by intro _ _ _ h; exact h) (Or.inl ⟨by rfl, ?_⟩) hHeld ?_
        rotate_left 1
        · intro wq hSw
          try dsimp only at hSw
          go_simp
          try (with_reducible rfl)
        try simp only [Act.put, List.setIfInBounds_toArray, List.set_cons_zero, List.set_cons_succ]
        refine wpAnyH_take (i := 11) (v := ?_) (by simp only [List.getElem?_toArray, List.getElem?_cons_succ, List.getElem?_cons_zero]; rfl) (by kernel_rfl) (by kernel_rfl) (by kernel_rfl) (by intro _ _ _ h; exact h) (Or.inl ⟨by rfl, ?_⟩) hHeld ?_
        rotate_left 1
        · intro wq hSw
          try dsimp only at hSw
          go_simp
          try (with_reducible rfl)
        try simp only [Act.put, List.setIfInBounds_toArray, List.set_cons_zero, List.set_cons_succ]
        refine wpAnyH_done (by kernel_rfl) ?_ _
        replace Bz := Bz.under b
        replace By := By.under b
        replace sy := sy.below b
        replace bb := bb.trans (b.mono bb.size)
        obtain ⟨o1, o2, o3, o4, o5⟩ := hO.out
        replace o1 : Hid (chkF st' rs' l'.length la' size = true) := o1
        clear hm0 hm1 hm2 hm3 hm4 HY HZ hO
        by_cases k1 : kd = 1
        · subst k1
          clear o3 o5
          obtain ⟨z0, z1, z2, z3, y0, y1, y2, y3⟩ := Bz.four
          obtain ⟨x0, x1, x2, x3, _⟩ := By.four
          have e0 : wd.cell? ⟨ab, ao + k * 3, none⟩ = some (.int .i64 1) := (bb.cell hab).trans c0'
          go_wp2_with fail
          refine (zCheck_at st' rs' la' size A' l'.length c' true wd o1.out).mono ?_
          rintro e w7 ⟨rfl, b7⟩
          have Bz7 := Bz.under b7
          have By7 := By.under b7
          have sy7 := sy.below b7
          have bb7 := bb.trans (b7.mono bb.size)
          obtain ⟨m0, m1, m2, m3, n0, n1, n2, n3⟩ := Bz7.four
          obtain ⟨t0, t1, t2, t3, _⟩ := By7.four
          have g0 : w7.cell? ⟨ab, ao + k * 3, none⟩ = some (.int .i64 1) := (bb7.cell hab).trans c0'
          go_wp2
          go_roundg g
          case measure => omega
          case rel =>
            exact ⟨k + 1, by omega, rfl, st', rs', la', A', c', l', ((((Bz7.set 0 _).set 1 _).set 2 _).set 3 _), sl_farz (sl_farz (sl_farz (sl_farz sy7 hny _) hny _) hny _) hny _, hny, o1, (((bb7.setCell (Nat.le_refl _) _).setCell (Nat.le_refl _) _).setCell (Nat.le_refl _) _).setCell (Nat.le_refl _) _⟩
        · obtain ⟨p1, p2⟩ := o3.resolve_left k1
          have k1b : (kd == 1) = false := by simpa using k1
          by_cases k4 : kd = 4
          · subst k4
            clear o3 o5
            obtain ⟨z0, z1, z2, z3, y0, y1, y2, y3⟩ := Bz.four
            obtain ⟨x0, x1, x2, x3, _⟩ := By.four
            have e0 : wd.cell? ⟨ab, ao + k * 3, none⟩ = some (.int .i64 4) := (bb.cell hab).trans c0'
            go_wp2_with fail
            refine (zCheck_at st' rs' la' size A' l'.length c' true wd o1.out).mono ?_
            rintro e w7 ⟨rfl, b7⟩
            have Bz7 := Bz.under b7
            have By7 := By.under b7
            have sy7 := sy.below b7
            have bb7 := bb.trans (b7.mono bb.size)
            obtain ⟨m0, m1, m2, m3, n0, n1, n2, n3⟩ := Bz7.four
            obtain ⟨t0, t1, t2, t3, _⟩ := By7.four
            have g0 : w7.cell? ⟨ab, ao + k * 3, none⟩ = some (.int .i64 4) := (bb7.cell hab).trans c0'
            go_wp2
            go_roundg g
            case measure => omega
            case rel =>
              exact ⟨k + 1, by omega, rfl, st', rs', la', A', c', l', ((((Bz7.set 0 _).set 1 _).set 2 _).set 3 _), sl_farz (sl_farz (sl_farz (sl_farz sy7 hny _) hny _) hny _) hny _, hny, o1, (((bb7.setCell (Nat.le_refl _) _).setCell (Nat.le_refl _) _).setCell (Nat.le_refl _) _).setCell (Nat.le_refl _) _⟩
          · have k4b : (kd == 4) = false := by simpa using k4
            have p3 : (l.length : Int) ≤ (l'.length : Int) := by
              rcases o5 with h | h | h
              · exact absurd h k1
              · exact absurd h k4
              · omega
            clear o3 o5
            obtain ⟨z0, z1, z2, z3, y0, y1, y2, y3⟩ := Bz.four
            obtain ⟨x0, x1, x2, x3, _⟩ := By.four
            have e0 : wd.cell? ⟨ab, ao + k * 3, none⟩ = some (.int .i64 kd) := (bb.cell hab).trans c0'
            go_wp2_with fail
            refine (zCheck_at st' rs' la' size A' l'.length c' true wd o1.out).mono ?_
            rintro e w7 ⟨rfl, b7⟩
            have Bz7 := Bz.under b7
            have By7 := By.under b7
            have sy7 := sy.below b7
            have bb7 := bb.trans (b7.mono bb.size)
            obtain ⟨m0, m1, m2, m3, n0, n1, n2, n3⟩ := Bz7.four
            obtain ⟨t0, t1, t2, t3, _⟩ := By7.four
            have g0 : w7.cell? ⟨ab, ao + k * 3, none⟩ = some (.int .i64 kd) := (bb7.cell hab).trans c0'
            go_wp2
            go_roundg g
            case measure => omega
            case rel =>
              exact ⟨k + 1, by omega, rfl, st', rs', la', A', c', l', ((((Bz7.set 0 _).set 1 _).set 2 _).set 3 _), sl_farz (sl_farz (sl_farz (sl_farz sy7 hny _) hny _) hny _) hny _, hny, o1, (((bb7.setCell (Nat.le_refl _) _).setCell (Nat.le_refl _) _).setCell (Nat.le_refl _) _).setCell (Nat.le_refl _) _⟩
      · go_wp2
        go_ret
        exact ⟨rfl, bb⟩
    · go_wp2
      go_ret
      exact ⟨rfl, bb⟩

theorem ZoneMay_walk (a0_0 : Int) (a0_1 : Int) (a0_2 : Option Addr) (len0_2 cap0_2 : Nat) (z0_2 : List Int) (a0_3 : Int) (a1 : Int) (a2 : Option Addr) (len2 cap2 : Nat) (w : World) (w0_0 : (Lit.int .i64 a0_0).wf = true) (w0_1 : (Lit.int .i64 a0_1).wf = true) (w0_2 : IsRow .u8 w a0_2 len0_2 cap0_2 z0_2) (w0_3 : (Lit.int .i64 a0_3).wf = true) (w1 : (Lit.int .i64 a1).wf = true) (w2 : IsSts [.num .i64, .row .u8, .num .i64] w a2 len2 cap2) :
    Calls Try.prog 5 #[.agg #[.int .i64 a0_0, .int .i64 a0_1, .slice a0_2 len0_2 cap0_2, .int .i64 a0_3], .int .i64 a1, .slice a2 len2 cap2] w (AwakePost w) := by
  obtain ⟨l0, s0⟩ := w0_2.bytes
  obtain rfl : l0.length = len0_2 := s0.len8
  exact ZoneMay_core a0_0 a0_1 a0_3 a1 a0_2 cap0_2 l0 a2 len2 cap2 w s0 w2
end Go.Proofs.Ytepknniflkmjnaa
