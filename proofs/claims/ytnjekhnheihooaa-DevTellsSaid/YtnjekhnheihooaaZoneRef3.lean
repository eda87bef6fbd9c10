/-
  The document's Crash of stage 3, and contracts with their results named (written by gen_zoneref3.py).
-/
import Derived.Test.YtnjekhnheihooaaZoneRef2
namespace Go.Proofs.Ytnjekhnheihooaa
open Go.RowKit Go.Wag
set_option linter.unusedVariables false

set_option maxHeartbeats 1600000 in
theorem refCrash3_any (st rs la size keep : Int) (A : Option Addr) (n c : Nat) (l : List UInt8) (w : World) (h : Sl w A n c (l.map v8)) (hn : n ≤ 10000000000000) (hk0 : -9223372036854775808 ≤ keep) (hk1 : keep < 9223372036854775808) :
    Calls Try.prog 33 #[.agg #[.int .i64 st, .int .i64 rs, .slice A n c, .int .i64 la], .int .i64 size, .int .i64 keep] w (ZoneNew w (crSt st rs n la size keep) rs (crDa st rs n la size keep l) (crLa st rs n la size keep)) := by
  have b1 := (((Below.refl w.heap.size w).alloc (Nat.le_refl _) (.cells #[.int .i64 st, .int .i64 rs, .slice A n c, .int .i64 la] 46)).alloc (by simp <;> omega) (.cells #[.int .i64 0, .int .i64 0, .slice none 0 0, .int .i64 0] 46))
  have B0 := ((Blk.new w #[.int .i64 st, .int .i64 rs, .slice A n c, .int .i64 la] 46).alloc (.cells #[.int .i64 0, .int .i64 0, .slice none 0 0, .int .i64 0] 46))
  have B1 := (Blk.new (w.alloc (.cells #[.int .i64 st, .int .i64 rs, .slice A n c, .int .i64 la] 46)) #[.int .i64 0, .int .i64 0, .slice none 0 0, .int .i64 0] 46)
  simp only [World.size_alloc] at B1
  have H1 := h.below b1
  go_enter Try.func33, Try.ntmps33
  go_wp2_with fail
  generalize hW1 : ((w.alloc (.cells #[.int .i64 st, .int .i64 rs, .slice A n c, .int .i64 la] 46)).alloc (.cells #[.int .i64 0, .int .i64 0, .slice none 0 0, .int .i64 0] 46)) = W1 at *
  refine (refCopy3_any st rs la A n c l W1 H1 hn).mono ?_
  rintro e w2 ⟨A2, n2, c2, rfl, N2, b2⟩
  obtain rfl : n2 = n := by have h1 := N2.sl.len8; have h2 := h.len8; omega
  have hs1 : W1.heap.size = w.heap.size + 2 := by rw [← hW1]; simp
  have hs2 := b2.size
  have hlt : w.heap.size < w2.heap.size ∧ w.heap.size + 1 < w2.heap.size := by omega
  have E0 := B0.under b2
  obtain ⟨q00, q01, q02, q03, _⟩ := E0.four
  have F0 := E0.alloc (.cells #[.int .i64 st, .int .i64 rs, .slice A2 n2 c2, .int .i64 la] 46)
  have F1 := (B1.under b2).alloc (.cells #[.int .i64 st, .int .i64 rs, .slice A2 n2 c2, .int .i64 la] 46)
  have Z3 := ZVar.laid N2 hs2 st rs la
  have b3 : Below w.heap.size w (w2.alloc (.cells #[.int .i64 st, .int .i64 rs, .slice A2 n2 c2, .int .i64 la] 46)) := (b1.trans (b2.mono (by omega))).alloc (by omega) _
  go_wp2_with fail
  generalize hW3 : w2.alloc (.cells #[.int .i64 st, .int .i64 rs, .slice A2 n2 c2, .int .i64 la] 46) = W3 at *
  have hcap := N2.sl.cap
  refine (refCheck3_any st rs la size A n2 c W3).mono ?_
  rintro e w4 ⟨rfl, b4⟩
  have Z4 := Z3.under b4
  have b5 := b3.trans (b4.mono b3.size)
  have R4 := F1.under b4
  have G4 := F0.under b4
  obtain ⟨d0, d1, d2, d3, k0, k1, k2, k3⟩ := Z4.blk.four
  obtain ⟨g0, g1, g2, g3, f0, f1, f2, f3⟩ := R4.four
  obtain ⟨x0, x1, x2, x3, _⟩ := G4.four
  have hA2 : ∀ ad, A2 = some ad → ad.block ≠ w2.heap.size := fun ad hA => Nat.ne_of_lt (Z4.apart ad hA).2
  cases hc : chkF st rs n2 la size
  · go_wp2
    try simp only [Exit.inBlock, Exit.then]
    rw [show crSt st rs n2 la size keep = st by simp [crSt, hc], show crDa st rs n2 la size keep l = l by simp [crDa, hc], show crLa st rs n2 la size keep = la by simp [crLa, hc]]
    exact ret_zone rfl rfl R4 Z4.own (by omega) (by omega) b5
  · have hb := chk_all hc
    obtain ⟨m, hm⟩ : ∃ m : Int, (if keep < la then la else keep) = m := ⟨_, rfl⟩
    obtain ⟨k, hk⟩ : ∃ k : Nat, min m (n2 : Int) = k := ⟨(min m n2).toNat, by
      rw [Int.toNat_of_nonneg]
      have : la ≤ m := by rw [← hm]; split <;> omega
      omega⟩
    have hkk : crK n2 la keep = (k : Int) := by
      unfold crK
      rw [← hk, ← hm]
      congr 1
      split <;> omega
    have hsz : Hid (¬ (k : Int) = 0 → (k : Int) = size → st = 3) := fun h1 h2 => cr_size hc (by rw [hkk]; exact h1) (by rw [hkk]; exact h2)
    have hm1 : (if m ≤ (n2 : Int) then m else (n2 : Int)) = k := by rw [← hk]; split <;> omega
    have hm2 : (if (n2 : Int) < m then (n2 : Int) else m) = k := by rw [← hk]; split <;> omega
    have hkn : k ≤ n2 := by omega
    have hkc : k ≤ c2 := by omega
    have hD : Hid (crDa st rs n2 la size keep l = l.take k) := by show _ = _; simp [crDa, hc, hkk]
    have hL : Hid (crLa st rs n2 la size keep = (k : Int)) := by show _ = _; simp [crLa, hc, hkk]
    have hT : Hid ((l.map v8).take k = (l.take k).map v8) := by show _ = _; rw [List.map_take]
    have HC := own_cut Z4.own hkn
    rw [hT.out] at HC
    clear hb
    by_cases hz : (k : Int) = 0
    · obtain rfl : k = 0 := by omega
      go_wp2
      try simp only [Exit.inBlock, Exit.then]
      rw [show crSt st rs n2 la size keep = 0 by simp [crSt, hc, hkk], hD.out, hL.out]
      exact ret_zone rfl rfl (((R4.far (by simp; omega) _).far (by simp; omega) _).far (by simp; omega) _) (own_far (own_far (own_far HC hA2 _) hA2 _) hA2 _) (by omega) (by omega) (((b5.setCell (by simp; omega) _).setCell (by simp; omega) _).setCell (by simp; omega) _)
    · have hzb : ((k : Int) == 0) = false := by simpa using hz
      have hz' : ¬ k = 0 := by omega
      by_cases h3 : st = 3
      · have h3b : (st == 3) = true := by simpa using h3
        by_cases hs : (k : Int) = size
        · have hsb : ((k : Int) == size) = true := by simpa using hs
          clear hs
          subst h3
          go_wp2
          try simp only [Exit.inBlock, Exit.then]
          rw [show crSt 3 rs n2 la size keep = 3 by simp [crSt, hkk, hz'], hD.out, hL.out]
          exact ret_zone rfl rfl (((R4.far (by simp; omega) _).far (by simp; omega) _).far (by simp; omega) _) (own_far (own_far (own_far HC hA2 _) hA2 _) hA2 _) (by omega) (by omega) (((b5.setCell (by simp; omega) _).setCell (by simp; omega) _).setCell (by simp; omega) _)
        · have hsb : ((k : Int) == size) = false := by simpa using hs
          clear hs
          subst h3
          go_wp2
          try simp only [Exit.inBlock, Exit.then]
          rw [show crSt 3 rs n2 la size keep = 3 by simp [crSt, hkk, hz'], hD.out, hL.out]
          exact ret_zone rfl rfl (((R4.far (by simp; omega) _).far (by simp; omega) _).far (by simp; omega) _) (own_far (own_far (own_far HC hA2 _) hA2 _) hA2 _) (by omega) (by omega) (((b5.setCell (by simp; omega) _).setCell (by simp; omega) _).setCell (by simp; omega) _)
      · have h3b : (st == 3) = false := by simpa using h3
        have hs : ((k : Int) == size) = false := by
          have := hsz.out hz
          simp
          intro e
          exact h3 (this e)
        go_wp2
        try simp only [Exit.inBlock, Exit.then]
        rw [show crSt st rs n2 la size keep = 2 by simp [crSt, hc, hkk, hz', h3], hD.out, hL.out]
        exact ret_zone rfl rfl (((R4.far (by simp; omega) _).far (by simp; omega) _).far (by simp; omega) _) (own_far (own_far (own_far HC hA2 _) hA2 _) hA2 _) (by omega) (by omega) (((b5.setCell (by simp; omega) _).setCell (by simp; omega) _).setCell (by simp; omega) _)


theorem refCrash3_at (st rs la size keep : Int) (A : Option Addr) (n c : Nat) (l : List UInt8) (st' la' : Int) (l' : List UInt8) (m : Nat) (w : World) (h : Sl w A n c (l.map v8)) (hn : n ≤ 10000000000000) (hk0 : -9223372036854775808 ≤ keep) (hk1 : keep < 9223372036854775808)
    (e1 : crSt st rs n la size keep = st') (e2 : crDa st rs n la size keep l = l') (e3 : crLa st rs n la size keep = la') (e4 : l'.length = m) :
    Calls Try.prog 33 #[.agg #[.int .i64 st, .int .i64 rs, .slice A n c, .int .i64 la], .int .i64 size, .int .i64 keep] w (ZN w st' rs l' la' m) := by
  subst e1 e2 e3
  exact (refCrash3_any st rs la size keep A n c l w h hn hk0 hk1).mono (ZoneNew.at_ e4)
theorem refCheck3_at (st rs la size : Int) (A : Option Addr) (n c : Nat) (r : Bool) (w : World) (e1 : chkF st rs n la size = r) :
    Calls Try.prog 37 #[.agg #[.int .i64 st, .int .i64 rs, .slice A n c, .int .i64 la], .int .i64 size] w fun e w' => e = .returned (.bool r) ∧ Below w.heap.size w w' := by
  subst e1
  exact refCheck3_any st rs la size A n c w
end Go.Proofs.Ytnjekhnheihooaa
