/-
  The document's Append, Reset, Finish, Close, Flush, Crash of stage 3: contracts (written by gen_zoneref2.py).
-/
import Derived.Test.YtepknniflkmjnaaZoneRef
namespace Go.Proofs.Ytepknniflkmjnaa
open Go.RowKit Go.Wag
set_option linter.unusedVariables false

theorem own_ne_blk {base B k : Nat} {w : World} {st rs la : Int} {A : Option Addr} {n c : Nat} {l : List UInt8} (h : ZVar base B w k st rs la A n c l) : ∀ b, (Value.slice A n c).ownBlock = some b → b ≠ k := fun b hb e => by
  cases A with
  | none => cases hb
  | some ad => exact Nat.ne_of_lt (h.apart ad rfl).2 ((Option.some.inj hb).trans e)
theorem own_ge {base B k B' : Nat} {w : World} {st rs la : Int} {A : Option Addr} {n c : Nat} {l : List UInt8} (h : ZVar base B w k st rs la A n c l) (hB : B' ≤ B) : ∀ b, (Value.slice A n c).ownBlock = some b → B' ≤ b := fun b hb => by
  cases A with
  | none => cases hb
  | some ad =>
    have h1 := (h.apart ad rfl).1
    have h2 : ad.block = b := Option.some.inj hb
    omega
theorem own_ne_low {base B k j : Nat} {w : World} {st rs la : Int} {A : Option Addr} {n c : Nat} {l : List UInt8} (h : ZVar base B w k st rs la A n c l) (hj : j < B) : ∀ b, (Value.slice A n c).ownBlock = some b → b ≠ j := fun b hb e => by
  have := own_ge h (Nat.le_refl _) b hb
  omega
theorem own_ne_step' {base base' B k m : Nat} {w w' : World} {st rs la : Int} {A A' : Option Addr} {n c c' : Nat} {l : List UInt8} {ys : List Value} {e : TypeId} (hO : Own base' e w w' (.slice A n c) (.slice A' m c') m ys) (h : ZVar base B w k st rs la A n c l) : ∀ ad, A' = some ad → ad.block ≠ k := fun ad hA => by
  subst hA
  exact own_ne_step hO (own_ne_blk h) h.blk.lt ad.block rfl

set_option maxHeartbeats 1000000 in
theorem refFinish3_any (st rs la : Int) (A : Option Addr) (n c : Nat) (l : List UInt8) (w : World) (h : Sl w A n c (l.map v8)) (hn : n ≤ 10000000000000) :
    Calls Try.prog 16 #[.agg #[.int .i64 st, .int .i64 rs, .slice A n c, .int .i64 la]] w (ZoneErr w (finSt st) rs l la (finEr st)) := by
  by_cases h1 : st = 1
  · subst h1
    have b1 := (((Below.refl w.heap.size w).alloc (Nat.le_refl _) (.cells #[.int .i64 1, .int .i64 rs, .slice A n c, .int .i64 la] 25)).alloc (by simp <;> omega) (.cells #[.int .i64 0, .int .i64 0, .slice none 0 0, .int .i64 0] 25))
    have B0 := ((Blk.new w #[.int .i64 1, .int .i64 rs, .slice A n c, .int .i64 la] 25).alloc (.cells #[.int .i64 0, .int .i64 0, .slice none 0 0, .int .i64 0] 25))
    have B1 := (Blk.new (w.alloc (.cells #[.int .i64 1, .int .i64 rs, .slice A n c, .int .i64 la] 25)) #[.int .i64 0, .int .i64 0, .slice none 0 0, .int .i64 0] 25)
    simp only [World.size_alloc] at B1
    have H1 := h.below b1
    go_enter Try.func16, Try.ntmps16
    go_wp2_with fail
    generalize hW1 : ((w.alloc (.cells #[.int .i64 1, .int .i64 rs, .slice A n c, .int .i64 la] 25)).alloc (.cells #[.int .i64 0, .int .i64 0, .slice none 0 0, .int .i64 0] 25)) = W1 at *
    refine (refCopy3_any 1 rs la A n c l W1 H1 hn).mono ?_
    rintro e w2 ⟨A2, n2, c2, rfl, N2, b2⟩
    have hs1 : W1.heap.size = w.heap.size + 2 := by rw [← hW1]; simp
    have hs2 := b2.size
    have hlt : w.heap.size < w2.heap.size ∧ w.heap.size + 1 < w2.heap.size := by omega
    have E0 := B0.under b2
    obtain ⟨q00, q01, q02, q03, _⟩ := E0.four
    have F0 := E0.alloc (.cells #[.int .i64 1, .int .i64 rs, .slice A2 n2 c2, .int .i64 la] 25)
    have F1 := (B1.under b2).alloc (.cells #[.int .i64 1, .int .i64 rs, .slice A2 n2 c2, .int .i64 la] 25)
    have Z3 := ZVar.laid N2 hs2 1 rs la
    have b3 : Below w.heap.size w (w2.alloc (.cells #[.int .i64 1, .int .i64 rs, .slice A2 n2 c2, .int .i64 la] 25)) := (b1.trans (b2.mono (by omega))).alloc (by omega) _
    obtain ⟨g0, g1, g2, g3, f0, f1, f2, f3⟩ := (B1.under b2).four
    have hne : ¬ (w.heap.size + 1 = w2.heap.size) := by omega
    go_wp2
    try simp only [Exit.inBlock, Exit.then]
    obtain ⟨y1, y2, y3⟩ := zone_stored (st := 3) (rs := rs) (la := la) (B1.under b2) N2 (by omega) (by omega) (b1.trans (b2.mono (by omega)))
    rw [show finSt 1 = 3 from rfl, show finEr 1 = 0 from rfl]
    exact ret_blk2 rfl rfl (y1.alloc _) Try.underlying25 (by kernel_rfl) rfl (ZoneErr.mk (World.ownsRow.alloc y2 _) (y3.alloc y3.size _))
  · by_cases h2 : st = 2
    · subst h2
      have b1 := (((Below.refl w.heap.size w).alloc (Nat.le_refl _) (.cells #[.int .i64 2, .int .i64 rs, .slice A n c, .int .i64 la] 25)).alloc (by simp <;> omega) (.cells #[.int .i64 0, .int .i64 0, .slice none 0 0, .int .i64 0] 25))
      have B0 := ((Blk.new w #[.int .i64 2, .int .i64 rs, .slice A n c, .int .i64 la] 25).alloc (.cells #[.int .i64 0, .int .i64 0, .slice none 0 0, .int .i64 0] 25))
      have B1 := (Blk.new (w.alloc (.cells #[.int .i64 2, .int .i64 rs, .slice A n c, .int .i64 la] 25)) #[.int .i64 0, .int .i64 0, .slice none 0 0, .int .i64 0] 25)
      simp only [World.size_alloc] at B1
      have H1 := h.below b1
      go_enter Try.func16, Try.ntmps16
      go_wp2_with fail
      generalize hW1 : ((w.alloc (.cells #[.int .i64 2, .int .i64 rs, .slice A n c, .int .i64 la] 25)).alloc (.cells #[.int .i64 0, .int .i64 0, .slice none 0 0, .int .i64 0] 25)) = W1 at *
      refine (refCopy3_any 2 rs la A n c l W1 H1 hn).mono ?_
      rintro e w2 ⟨A2, n2, c2, rfl, N2, b2⟩
      have hs1 : W1.heap.size = w.heap.size + 2 := by rw [← hW1]; simp
      have hs2 := b2.size
      have hlt : w.heap.size < w2.heap.size ∧ w.heap.size + 1 < w2.heap.size := by omega
      have E0 := B0.under b2
      obtain ⟨q00, q01, q02, q03, _⟩ := E0.four
      have F0 := E0.alloc (.cells #[.int .i64 2, .int .i64 rs, .slice A2 n2 c2, .int .i64 la] 25)
      have F1 := (B1.under b2).alloc (.cells #[.int .i64 2, .int .i64 rs, .slice A2 n2 c2, .int .i64 la] 25)
      have Z3 := ZVar.laid N2 hs2 2 rs la
      have b3 : Below w.heap.size w (w2.alloc (.cells #[.int .i64 2, .int .i64 rs, .slice A2 n2 c2, .int .i64 la] 25)) := (b1.trans (b2.mono (by omega))).alloc (by omega) _
      obtain ⟨g0, g1, g2, g3, f0, f1, f2, f3⟩ := (B1.under b2).four
      have hne : ¬ (w.heap.size + 1 = w2.heap.size) := by omega
      go_wp2
      try simp only [Exit.inBlock, Exit.then]
      obtain ⟨y1, y2, y3⟩ := zone_stored (st := 3) (rs := rs) (la := la) (B1.under b2) N2 (by omega) (by omega) (b1.trans (b2.mono (by omega)))
      rw [show finSt 2 = 3 from rfl, show finEr 2 = 0 from rfl]
      exact ret_blk2 rfl rfl (y1.alloc _) Try.underlying25 (by kernel_rfl) rfl (ZoneErr.mk (World.ownsRow.alloc y2 _) (y3.alloc y3.size _))
    · have e1 : (st != 1) = true := by simpa using h1
      have e2 : (st != 2) = true := by simpa using h2
      have b1 := (((Below.refl w.heap.size w).alloc (Nat.le_refl _) (.cells #[.int .i64 st, .int .i64 rs, .slice A n c, .int .i64 la] 25)).alloc (by simp <;> omega) (.cells #[.int .i64 0, .int .i64 0, .slice none 0 0, .int .i64 0] 25))
      have B0 := ((Blk.new w #[.int .i64 st, .int .i64 rs, .slice A n c, .int .i64 la] 25).alloc (.cells #[.int .i64 0, .int .i64 0, .slice none 0 0, .int .i64 0] 25))
      have B1 := (Blk.new (w.alloc (.cells #[.int .i64 st, .int .i64 rs, .slice A n c, .int .i64 la] 25)) #[.int .i64 0, .int .i64 0, .slice none 0 0, .int .i64 0] 25)
      simp only [World.size_alloc] at B1
      have H1 := h.below b1
      go_enter Try.func16, Try.ntmps16
      go_wp2_with fail
      generalize hW1 : ((w.alloc (.cells #[.int .i64 st, .int .i64 rs, .slice A n c, .int .i64 la] 25)).alloc (.cells #[.int .i64 0, .int .i64 0, .slice none 0 0, .int .i64 0] 25)) = W1 at *
      refine (refCopy3_any st rs la A n c l W1 H1 hn).mono ?_
      rintro e w2 ⟨A2, n2, c2, rfl, N2, b2⟩
      have hs1 : W1.heap.size = w.heap.size + 2 := by rw [← hW1]; simp
      have hs2 := b2.size
      have hlt : w.heap.size < w2.heap.size ∧ w.heap.size + 1 < w2.heap.size := by omega
      have E0 := B0.under b2
      obtain ⟨q00, q01, q02, q03, _⟩ := E0.four
      have F0 := E0.alloc (.cells #[.int .i64 st, .int .i64 rs, .slice A2 n2 c2, .int .i64 la] 25)
      have F1 := (B1.under b2).alloc (.cells #[.int .i64 st, .int .i64 rs, .slice A2 n2 c2, .int .i64 la] 25)
      have Z3 := ZVar.laid N2 hs2 st rs la
      have b3 : Below w.heap.size w (w2.alloc (.cells #[.int .i64 st, .int .i64 rs, .slice A2 n2 c2, .int .i64 la] 25)) := (b1.trans (b2.mono (by omega))).alloc (by omega) _
      obtain ⟨g0, g1, g2, g3, f0, f1, f2, f3⟩ := (B1.under b2).four
      have hne : ¬ (w.heap.size + 1 = w2.heap.size) := by omega
      go_wp2
      try simp only [Exit.inBlock, Exit.then]
      obtain ⟨y1, y2, y3⟩ := zone_stored (st := st) (rs := rs) (la := la) (B1.under b2) N2 (by omega) (by omega) (b1.trans (b2.mono (by omega)))
      rw [show finSt st = st by simp [finSt, h1, h2], show finEr st = 30 by simp [finEr, h1, h2]]
      exact ret_blk2 rfl rfl (y1.alloc _) Try.underlying25 (by kernel_rfl) rfl (ZoneErr.mk (World.ownsRow.alloc y2 _) (y3.alloc y3.size _))

set_option maxHeartbeats 1000000 in
theorem refClose3_any (st rs la : Int) (A : Option Addr) (n c : Nat) (l : List UInt8) (w : World) (h : Sl w A n c (l.map v8)) (hn : n ≤ 10000000000000) :
    Calls Try.prog 18 #[.agg #[.int .i64 st, .int .i64 rs, .slice A n c, .int .i64 la]] w (ZoneErr w (cloSt st) rs l la (cloEr st)) := by
  by_cases h1 : st = 1
  · subst h1
    have b1 := (((Below.refl w.heap.size w).alloc (Nat.le_refl _) (.cells #[.int .i64 1, .int .i64 rs, .slice A n c, .int .i64 la] 25)).alloc (by simp <;> omega) (.cells #[.int .i64 0, .int .i64 0, .slice none 0 0, .int .i64 0] 25))
    have B0 := ((Blk.new w #[.int .i64 1, .int .i64 rs, .slice A n c, .int .i64 la] 25).alloc (.cells #[.int .i64 0, .int .i64 0, .slice none 0 0, .int .i64 0] 25))
    have B1 := (Blk.new (w.alloc (.cells #[.int .i64 1, .int .i64 rs, .slice A n c, .int .i64 la] 25)) #[.int .i64 0, .int .i64 0, .slice none 0 0, .int .i64 0] 25)
    simp only [World.size_alloc] at B1
    have H1 := h.below b1
    go_enter Try.func18, Try.ntmps18
    go_wp2_with fail
    generalize hW1 : ((w.alloc (.cells #[.int .i64 1, .int .i64 rs, .slice A n c, .int .i64 la] 25)).alloc (.cells #[.int .i64 0, .int .i64 0, .slice none 0 0, .int .i64 0] 25)) = W1 at *
    refine (refCopy3_any 1 rs la A n c l W1 H1 hn).mono ?_
    rintro e w2 ⟨A2, n2, c2, rfl, N2, b2⟩
    have hs1 : W1.heap.size = w.heap.size + 2 := by rw [← hW1]; simp
    have hs2 := b2.size
    have hlt : w.heap.size < w2.heap.size ∧ w.heap.size + 1 < w2.heap.size := by omega
    have E0 := B0.under b2
    obtain ⟨q00, q01, q02, q03, _⟩ := E0.four
    have F0 := E0.alloc (.cells #[.int .i64 1, .int .i64 rs, .slice A2 n2 c2, .int .i64 la] 25)
    have F1 := (B1.under b2).alloc (.cells #[.int .i64 1, .int .i64 rs, .slice A2 n2 c2, .int .i64 la] 25)
    have Z3 := ZVar.laid N2 hs2 1 rs la
    have b3 : Below w.heap.size w (w2.alloc (.cells #[.int .i64 1, .int .i64 rs, .slice A2 n2 c2, .int .i64 la] 25)) := (b1.trans (b2.mono (by omega))).alloc (by omega) _
    obtain ⟨g0, g1, g2, g3, f0, f1, f2, f3⟩ := (B1.under b2).four
    have hne : ¬ (w.heap.size + 1 = w2.heap.size) := by omega
    go_wp2
    try simp only [Exit.inBlock, Exit.then]
    obtain ⟨y1, y2, y3⟩ := zone_stored (st := 2) (rs := rs) (la := la) (B1.under b2) N2 (by omega) (by omega) (b1.trans (b2.mono (by omega)))
    rw [show cloSt 1 = 2 from rfl, show cloEr 1 = 0 from rfl]
    exact ret_blk2 rfl rfl (y1.alloc _) Try.underlying25 (by kernel_rfl) rfl (ZoneErr.mk (World.ownsRow.alloc y2 _) (y3.alloc y3.size _))
  · have e1 : (st != 1) = true := by simpa using h1
    have b1 := (((Below.refl w.heap.size w).alloc (Nat.le_refl _) (.cells #[.int .i64 st, .int .i64 rs, .slice A n c, .int .i64 la] 25)).alloc (by simp <;> omega) (.cells #[.int .i64 0, .int .i64 0, .slice none 0 0, .int .i64 0] 25))
    have B0 := ((Blk.new w #[.int .i64 st, .int .i64 rs, .slice A n c, .int .i64 la] 25).alloc (.cells #[.int .i64 0, .int .i64 0, .slice none 0 0, .int .i64 0] 25))
    have B1 := (Blk.new (w.alloc (.cells #[.int .i64 st, .int .i64 rs, .slice A n c, .int .i64 la] 25)) #[.int .i64 0, .int .i64 0, .slice none 0 0, .int .i64 0] 25)
    simp only [World.size_alloc] at B1
    have H1 := h.below b1
    go_enter Try.func18, Try.ntmps18
    go_wp2_with fail
    generalize hW1 : ((w.alloc (.cells #[.int .i64 st, .int .i64 rs, .slice A n c, .int .i64 la] 25)).alloc (.cells #[.int .i64 0, .int .i64 0, .slice none 0 0, .int .i64 0] 25)) = W1 at *
    refine (refCopy3_any st rs la A n c l W1 H1 hn).mono ?_
    rintro e w2 ⟨A2, n2, c2, rfl, N2, b2⟩
    have hs1 : W1.heap.size = w.heap.size + 2 := by rw [← hW1]; simp
    have hs2 := b2.size
    have hlt : w.heap.size < w2.heap.size ∧ w.heap.size + 1 < w2.heap.size := by omega
    have E0 := B0.under b2
    obtain ⟨q00, q01, q02, q03, _⟩ := E0.four
    have F0 := E0.alloc (.cells #[.int .i64 st, .int .i64 rs, .slice A2 n2 c2, .int .i64 la] 25)
    have F1 := (B1.under b2).alloc (.cells #[.int .i64 st, .int .i64 rs, .slice A2 n2 c2, .int .i64 la] 25)
    have Z3 := ZVar.laid N2 hs2 st rs la
    have b3 : Below w.heap.size w (w2.alloc (.cells #[.int .i64 st, .int .i64 rs, .slice A2 n2 c2, .int .i64 la] 25)) := (b1.trans (b2.mono (by omega))).alloc (by omega) _
    obtain ⟨g0, g1, g2, g3, f0, f1, f2, f3⟩ := (B1.under b2).four
    have hne : ¬ (w.heap.size + 1 = w2.heap.size) := by omega
    go_wp2
    try simp only [Exit.inBlock, Exit.then]
    obtain ⟨y1, y2, y3⟩ := zone_stored (st := st) (rs := rs) (la := la) (B1.under b2) N2 (by omega) (by omega) (b1.trans (b2.mono (by omega)))
    rw [show cloSt st = st by simp [cloSt, h1], show cloEr st = 30 by simp [cloEr, h1]]
    exact ret_blk2 rfl rfl (y1.alloc _) Try.underlying25 (by kernel_rfl) rfl (ZoneErr.mk (World.ownsRow.alloc y2 _) (y3.alloc y3.size _))

set_option maxHeartbeats 1000000 in
theorem refFlush3_any (st rs la : Int) (A : Option Addr) (n c : Nat) (l : List UInt8) (w : World) (h : Sl w A n c (l.map v8)) (hn : n ≤ 10000000000000) :
    Calls Try.prog 21 #[.agg #[.int .i64 st, .int .i64 rs, .slice A n c, .int .i64 la]] w (ZoneNew w st rs l l.length) := by
  have hll : Hid (((l.length : Nat) : Int) = n) := congrArg Int.ofNat h.len8
  have b1 := (((Below.refl w.heap.size w).alloc (Nat.le_refl _) (.cells #[.int .i64 st, .int .i64 rs, .slice A n c, .int .i64 la] 25)).alloc (by simp <;> omega) (.cells #[.int .i64 0, .int .i64 0, .slice none 0 0, .int .i64 0] 25))
  have B0 := ((Blk.new w #[.int .i64 st, .int .i64 rs, .slice A n c, .int .i64 la] 25).alloc (.cells #[.int .i64 0, .int .i64 0, .slice none 0 0, .int .i64 0] 25))
  have B1 := (Blk.new (w.alloc (.cells #[.int .i64 st, .int .i64 rs, .slice A n c, .int .i64 la] 25)) #[.int .i64 0, .int .i64 0, .slice none 0 0, .int .i64 0] 25)
  simp only [World.size_alloc] at B1
  have H1 := h.below b1
  go_enter Try.func21, Try.ntmps21
  go_wp2_with fail
  generalize hW1 : ((w.alloc (.cells #[.int .i64 st, .int .i64 rs, .slice A n c, .int .i64 la] 25)).alloc (.cells #[.int .i64 0, .int .i64 0, .slice none 0 0, .int .i64 0] 25)) = W1 at *
  refine (refCopy3_any st rs la A n c l W1 H1 hn).mono ?_
  rintro e w2 ⟨A2, n2, c2, rfl, N2, b2⟩
  have hs1 : W1.heap.size = w.heap.size + 2 := by rw [← hW1]; simp
  have hs2 := b2.size
  have hlt : w.heap.size < w2.heap.size ∧ w.heap.size + 1 < w2.heap.size := by omega
  have E0 := B0.under b2
  obtain ⟨q00, q01, q02, q03, _⟩ := E0.four
  have F0 := E0.alloc (.cells #[.int .i64 st, .int .i64 rs, .slice A2 n2 c2, .int .i64 la] 25)
  have F1 := (B1.under b2).alloc (.cells #[.int .i64 st, .int .i64 rs, .slice A2 n2 c2, .int .i64 la] 25)
  have Z3 := ZVar.laid N2 hs2 st rs la
  have b3 : Below w.heap.size w (w2.alloc (.cells #[.int .i64 st, .int .i64 rs, .slice A2 n2 c2, .int .i64 la] 25)) := (b1.trans (b2.mono (by omega))).alloc (by omega) _
  obtain ⟨g0, g1, g2, g3, f0, f1, f2, f3⟩ := (B1.under b2).four
  have hne : ¬ (w.heap.size + 1 = w2.heap.size) := by omega
  go_wp2
  try simp only [Exit.inBlock, Exit.then]
  obtain ⟨y1, y2, y3⟩ := zone_stored (st := st) (rs := rs) (la := (n : Int)) (B1.under b2) N2 (by omega) (by omega) (b1.trans (b2.mono (by omega)))
  rw [hll.out]
  exact ret_blk rfl rfl (y1.alloc _) Try.underlying25 (by kernel_rfl) (ZoneNew.mk (World.ownsRow.alloc y2 _) (y3.alloc y3.size _))

set_option maxHeartbeats 1000000 in
theorem refReset3_any (st rs la : Int) (A : Option Addr) (n c : Nat) (l : List UInt8) (w : World) (h : Sl w A n c (l.map v8)) (hn : n ≤ 10000000000000) :
    Calls Try.prog 14 #[.agg #[.int .i64 st, .int .i64 rs, .slice A n c, .int .i64 la]] w (ZoneErr w (resSt st rs) (resRs st rs) (resDa st rs l) (resLa st rs la) (resEr st rs)) := by
  have b1 := (((Below.refl w.heap.size w).alloc (Nat.le_refl _) (.cells #[.int .i64 st, .int .i64 rs, .slice A n c, .int .i64 la] 25)).alloc (by simp <;> omega) (.cells #[.int .i64 0, .int .i64 0, .slice none 0 0, .int .i64 0] 25))
  have B0 := ((Blk.new w #[.int .i64 st, .int .i64 rs, .slice A n c, .int .i64 la] 25).alloc (.cells #[.int .i64 0, .int .i64 0, .slice none 0 0, .int .i64 0] 25))
  have B1 := (Blk.new (w.alloc (.cells #[.int .i64 st, .int .i64 rs, .slice A n c, .int .i64 la] 25)) #[.int .i64 0, .int .i64 0, .slice none 0 0, .int .i64 0] 25)
  simp only [World.size_alloc] at B1
  have H1 := h.below b1
  cases hB : resB st rs
  · have hB' : Hid (resB st rs = false) := hB
    clear hB
    have hcond : st < 0 ∨ 3 < st ∨ rs < 0 ∨ 1073741824 ≤ rs := by
      have hx := hB'.out
      simp [resB] at hx
      omega
    go_enter Try.func14, Try.ntmps14
    go_wp2_with fail
    all_goals try (exfalso; go_tidy; simp_all; omega)
    all_goals
      generalize hW1 : ((w.alloc (.cells #[.int .i64 st, .int .i64 rs, .slice A n c, .int .i64 la] 25)).alloc (.cells #[.int .i64 0, .int .i64 0, .slice none 0 0, .int .i64 0] 25)) = W1 at *
      have hs1 : W1.heap.size = w.heap.size + 2 := by rw [← hW1]; simp
      refine (refCopy3_any st rs la A n c l W1 H1 hn).mono ?_
      rintro e w2 ⟨A2, n2, c2, rfl, N2, b2⟩
      have hs2 := b2.size
      obtain ⟨g0, g1, g2, g3, f0, f1, f2, f3⟩ := (B1.under b2).four
      go_wp2
      try simp only [Exit.inBlock, Exit.then]
      rw [show resSt st rs = st by simp [resSt, hB'.out], show resRs st rs = rs by simp [resRs, hB'.out], show resDa st rs l = l by simp [resDa, hB'.out], show resLa st rs la = la by simp [resLa, hB'.out], show resEr st rs = 30 by simp [resEr, hB'.out]]
      exact ret_zone2 rfl rfl rfl (B1.under b2) N2 (by omega) (by omega) (b1.trans (b2.mono (by omega)))
  · have hB' : Hid (resB st rs = true) := hB
    clear hB
    have hcond : 0 ≤ st ∧ st ≤ 3 ∧ 0 ≤ rs ∧ rs < 1073741824 := by
      have hx := hB'.out
      simp [resB] at hx
      omega
    have hwr : wrap64 (rs + 1) = rs + 1 := wrap64_small (by omega) (by omega)
    go_enter Try.func14, Try.ntmps14
    go_wp2
    try simp only [Exit.inBlock, Exit.then]
    rw [show resSt st rs = 0 by simp [resSt, hB'.out], show resRs st rs = rs + 1 by simp [resRs, hB'.out], show resDa st rs l = [] by simp [resDa, hB'.out], show resLa st rs la = 0 by simp [resLa, hB'.out], show resEr st rs = 0 by simp [resEr, hB'.out]]
    have V := Blk.new (w.alloc (.cells #[.int .i64 st, .int .i64 rs, .slice A n c, .int .i64 la] 25)) #[.int .i64 0, .int .i64 (rs + 1), .slice none 0 0, .int .i64 0] 25
    simp only [World.size_alloc] at V
    exact ret_blk2 rfl rfl V Try.underlying25 (by kernel_rfl) rfl (ZoneErr.mk (Nw.nil _ _ _) (((Below.refl _ _).alloc (Nat.le_refl _) _).alloc (by simp) _))

theorem own_cut {w : World} {base : Nat} {e : TypeId} {A : Option Addr} {n c k : Nat} {xs : List Value} (h : w.ownsRow base e 1 (.slice A n c) n xs) (hk : k ≤ n) : w.ownsRow base e 1 (.slice A k c) k (xs.take k) := by
  obtain ⟨hl, hn | ⟨g, cap, cur, hv, hb, hg, hnc, hm, hs, ht⟩⟩ := h
  · obtain ⟨hv, h0⟩ := hn
    obtain ⟨rfl, -, rfl⟩ : A = none ∧ n = 0 ∧ c = 0 := by simpa using hv
    obtain rfl : k = 0 := by omega
    exact ⟨by simp, .inl ⟨rfl, rfl⟩⟩
  · obtain ⟨rfl, rfl⟩ : A = some ⟨g, 0, none⟩ ∧ c = cap := by simpa using hv
    refine ⟨?_, .inr ⟨g, c, cur, rfl, hb, hg, by omega, hm, hs, ?_⟩⟩
    · rw [List.length_take, hl]
      omega
    · rw [← ht, List.take_take]
      congr 1
      omega
theorem cr_size {st rs n la size keep : Int} (hc : chkF st rs n la size = true) (h0 : ¬ crK n la keep = 0) (hs : crK n la keep = size) : st = 3 := by
  have h := chk_all hc
  unfold crK at h0 hs
  omega

set_option maxHeartbeats 1000000 in
theorem refAppend3_any (st rs la size : Int) (Ab : Option Addr) (nb cb : Nat) (b : List UInt8) (A : Option Addr) (n c : Nat) (l : List UInt8) (w : World) (h : Sl w A n c (l.map v8)) (hb : Sl w Ab nb cb (b.map v8)) (hn : n ≤ 10000000000000) (hnb : n + nb ≤ 10000000000000) :
    Calls Try.prog 12 #[.agg #[.int .i64 st, .int .i64 rs, .slice A n c, .int .i64 la], .int .i64 size, .slice Ab nb cb] w (ZoneErr w (appSt st rs n la size nb) rs (appDa st rs n la size nb l b) la (appErrF st rs n la size nb)) := by
  obtain ⟨i0, hi, hz0, hz1, hz2⟩ := info_parts i5
  have b1 := (((Below.refl w.heap.size w).alloc (Nat.le_refl _) (.cells #[.int .i64 st, .int .i64 rs, .slice A n c, .int .i64 la] 25)).alloc (by simp <;> omega) (.cells #[.int .i64 0, .int .i64 0, .slice none 0 0, .int .i64 0] 25))
  have B0 := ((Blk.new w #[.int .i64 st, .int .i64 rs, .slice A n c, .int .i64 la] 25).alloc (.cells #[.int .i64 0, .int .i64 0, .slice none 0 0, .int .i64 0] 25))
  have B1 := (Blk.new (w.alloc (.cells #[.int .i64 st, .int .i64 rs, .slice A n c, .int .i64 la] 25)) #[.int .i64 0, .int .i64 0, .slice none 0 0, .int .i64 0] 25)
  simp only [World.size_alloc] at B1
  have H1 := h.below b1
  go_enter Try.func12, Try.ntmps12
  go_wp2_with fail
  generalize hW1 : ((w.alloc (.cells #[.int .i64 st, .int .i64 rs, .slice A n c, .int .i64 la] 25)).alloc (.cells #[.int .i64 0, .int .i64 0, .slice none 0 0, .int .i64 0] 25)) = W1 at *
  refine (refCopy3_any st rs la A n c l W1 H1 hn).mono ?_
  rintro e w2 ⟨A2, n2, c2, rfl, N2, b2⟩
  obtain rfl : n2 = n := by have h1 := N2.sl.len8; have h2 := h.len8; omega
  have hs1 : W1.heap.size = w.heap.size + 2 := by rw [← hW1]; simp
  have hs2 := b2.size
  have hlt : w.heap.size < w2.heap.size ∧ w.heap.size + 1 < w2.heap.size := by omega
  have E0 := B0.under b2
  obtain ⟨q00, q01, q02, q03, _⟩ := E0.four
  have F0 := E0.alloc (.cells #[.int .i64 st, .int .i64 rs, .slice A2 n2 c2, .int .i64 la] 25)
  have F1 := (B1.under b2).alloc (.cells #[.int .i64 st, .int .i64 rs, .slice A2 n2 c2, .int .i64 la] 25)
  have Z3 := ZVar.laid N2 hs2 st rs la
  have b3 : Below w.heap.size w (w2.alloc (.cells #[.int .i64 st, .int .i64 rs, .slice A2 n2 c2, .int .i64 la] 25)) := (b1.trans (b2.mono (by omega))).alloc (by omega) _
  go_wp2_with fail
  generalize hW3 : w2.alloc (.cells #[.int .i64 st, .int .i64 rs, .slice A2 n2 c2, .int .i64 la] 25) = W3 at *
  refine (refCheck3_any st rs la size A n2 c W3).mono ?_
  rintro e w4 ⟨rfl, b4⟩
  have Z4 := Z3.under b4
  have b5 := b3.trans (b4.mono b3.size)
  have R4 := F1.under b4
  have G4 := F0.under b4
  have hsb := hb.below b5
  cases hc : chkF st rs n2 la size
  · have e1 : appErrF st rs n2 la size nb = 1 := by rw [appErrF, if_neg (fun hh => by rw [hc] at hh; cases hh.1)]
    have e2 : appSt st rs n2 la size nb = st := by rw [appSt, e1]; rfl
    have e3 : appDa st rs n2 la size nb l b = l := by rw [appDa, e1]; rfl
    obtain ⟨d0, d1, d2, d3, _⟩ := Z4.blk.four
    obtain ⟨g0, g1, g2, g3, f0, f1, f2, f3⟩ := R4.four
    go_wp2
    try simp only [Exit.inBlock, Exit.then]
    rw [e1, e2, e3]
    exact ret_zone2 rfl rfl rfl R4 Z4.own (by omega) (by omega) b5
  · by_cases hnb0 : (nb : Int) = 0
    · have e1 : appErrF st rs n2 la size nb = 1 := by rw [appErrF, if_neg (fun hh => hh.2 hnb0)]
      have e2 : appSt st rs n2 la size nb = st := by rw [appSt, e1]; rfl
      have e3 : appDa st rs n2 la size nb l b = l := by rw [appDa, e1]; rfl
      obtain ⟨d0, d1, d2, d3, _⟩ := Z4.blk.four
      obtain ⟨g0, g1, g2, g3, f0, f1, f2, f3⟩ := R4.four
      go_wp2
      try simp only [Exit.inBlock, Exit.then]
      rw [e1, e2, e3]
      exact ret_zone2 rfl rfl rfl R4 Z4.own (by omega) (by omega) b5
    · have hnb1 : ((nb : Int) == 0) = false := by simpa using hnb0
      obtain ⟨x0, x1, x2, x3, _⟩ := G4.four
      go_wp2_with fail
      refine (refRoom3_any st rs la size A n2 c w4).mono ?_
      rintro e w5 ⟨rfl, b6⟩
      have Z5 := Z4.under b6
      have b7 := b5.trans (b6.mono b5.size)
      have R5 := R4.under b6
      have hsb5 := hsb.below b6
      obtain ⟨r, hr⟩ : ∃ r, Hid (roomF st rs n2 la size = r) := ⟨_, rfl⟩
      rw [hr.out]
      obtain ⟨d0, d1, d2, d3, k0, k1, k2, k3⟩ := Z5.blk.four
      obtain ⟨g0, g1, g2, g3, f0, f1, f2, f3⟩ := R5.four
      by_cases hle : (nb : Int) ≤ r
      · have e1 : appErrF st rs n2 la size nb = 0 := by rw [appErr_cases _ hc hnb0, hr.out, if_pos hle]
        have e2 : appSt st rs n2 la size nb = fullF ((n2 : Int) + nb) size := by rw [appSt, if_pos e1]
        have e3 : appDa st rs n2 la size nb l b = l ++ b := by rw [appDa, if_pos e1]
        have E : Hid (appErrF st rs n2 la size nb = 0 ∧ appSt st rs n2 la size nb = fullF ((n2 : Int) + nb) size ∧ appDa st rs n2 la size nb l b = l ++ b) := ⟨e1, e2, e3⟩
        clear e1 e2 e3
        have HO := Own.start Z5.own Z5.base_le
        rcases fullF_cases ((n2 : Int) + nb) size with ⟨hq, hf⟩ | ⟨hq, hf⟩
        all_goals
          replace hf : Hid (fullF ((n2 : Int) + nb) size = _) := hf
          go_wp2_with (at_builtin
                       refine wpList_app rfl (.tmp 31) (.tmp 32) 23 rfl rfl HO i0 (.int .u8 0) 1 Try.underlying23 hi hz0 hz1 hz2 rfl _ _ _ _ rfl hsb5 (oneCell8 _) (by omega) (by omega) ?_
                       intro A6 c6 w6 hw6
                       have D6 := Z5.blk.own hw6 (own_ne_blk Z5)
                       have R6 := R5.own hw6 (own_ne_low Z5 (by omega))
                       obtain ⟨u0, u1, u2, u3, i0', i1', i2', i3'⟩ := D6.four
                       obtain ⟨v0, v1, v2, v3, j0, j1, j2, j3⟩ := R6.four
                       have D7 := ((D6.set 2 (.slice A6 (n2 + nb) c6)).set 0 (.int .i64 1)).set 0 (.int .i64 3)
                       simp only [List.setIfInBounds_toArray, List.set_cons_zero, List.set_cons_succ] at D7
                       obtain ⟨t0, t1, t2, t3, _⟩ := D7.four)
          have hA6 := own_ne_step' hw6 Z5
          have hO := hw6.own
          rw [← List.map_append] at hO
          have b8 := hw6.below b7 b7.size (own_ge Z5 (by omega))
          try simp only [Exit.inBlock, Exit.then]
          rw [E.out.1, E.out.2.1, E.out.2.2, hf.out]
        · exact ret_zone2 rfl rfl rfl (((R6.far (by simp; omega) _).far (by simp; omega) _).far (by simp; omega) _) (own_far (own_far (own_far hO hA6 _) hA6 _) hA6 _) (by omega) (by omega) (((b8.setCell (by simp; omega) _).setCell (by simp; omega) _).setCell (by simp; omega) _)
        · exact ret_zone2 rfl rfl rfl ((R6.far (by simp; omega) _).far (by simp; omega) _) (own_far (own_far hO hA6 _) hA6 _) (by omega) (by omega) ((b8.setCell (by simp; omega) _).setCell (by simp; omega) _)
      · have e1 : appErrF st rs n2 la size nb = 30 := by rw [appErr_cases _ hc hnb0, hr.out, if_neg hle]
        have e2 : appSt st rs n2 la size nb = st := by rw [appSt, e1]; rfl
        have e3 : appDa st rs n2 la size nb l b = l := by rw [appDa, e1]; rfl
        go_wp2
        try simp only [Exit.inBlock, Exit.then]
        rw [e1, e2, e3]
        exact ret_zone2 rfl rfl rfl R5 Z5.own (by omega) (by omega) b7

end Go.Proofs.Ytepknniflkmjnaa
