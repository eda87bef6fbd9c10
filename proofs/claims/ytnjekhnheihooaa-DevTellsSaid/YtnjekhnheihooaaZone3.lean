/-
  Contracts of package zone's Close, Reset, Flush, Append (written by gen_zone3.py).
-/
import Derived.Test.YtnjekhnheihooaaZone2
namespace Go.Proofs.Ytnjekhnheihooaa
open Go.RowKit Go.Wag
set_option linter.unusedVariables false

theorem zClose_any (st rs la : Int) (A : Option Addr) (n c : Nat) (l : List UInt8) (w : World) (h : Sl w A n c (l.map v8)) (hn : n ≤ 10000000000000) :
    Calls Try.prog 51 #[.agg #[.int .i64 st, .int .i64 rs, .slice A n c, .int .i64 la]] w (ZoneErr w (cloSt st) rs l la (cloEr st)) := by
  have b1 := (((Below.refl w.heap.size w).alloc (Nat.le_refl _) (.cells #[.int .i64 st, .int .i64 rs, .slice A n c, .int .i64 la] 46)).alloc (by simp <;> omega) (.cells #[.int .i64 0, .int .i64 0, .slice none 0 0, .int .i64 0] 46))
  have B0 := ((Blk.new w #[.int .i64 st, .int .i64 rs, .slice A n c, .int .i64 la] 46).alloc (.cells #[.int .i64 0, .int .i64 0, .slice none 0 0, .int .i64 0] 46))
  have B1 := (Blk.new (w.alloc (.cells #[.int .i64 st, .int .i64 rs, .slice A n c, .int .i64 la] 46)) #[.int .i64 0, .int .i64 0, .slice none 0 0, .int .i64 0] 46)
  simp only [World.size_alloc] at B1
  have H1 := h.below b1
  go_enter Try.func51, Try.ntmps51
  go_wp2_with fail
  generalize hW1 : ((w.alloc (.cells #[.int .i64 st, .int .i64 rs, .slice A n c, .int .i64 la] 46)).alloc (.cells #[.int .i64 0, .int .i64 0, .slice none 0 0, .int .i64 0] 46)) = W1 at *
  refine (zcopied_any st rs la A n c l W1 H1 hn).mono ?_
  rintro e w2 ⟨A2, n2, c2, rfl, N2, b2⟩
  have hs1 : W1.heap.size = w.heap.size + 2 := by rw [← hW1]; simp
  have hs2 := b2.size
  have hlt : w.heap.size < w2.heap.size ∧ w.heap.size + 1 < w2.heap.size := by omega
  have E0 := B0.under b2
  obtain ⟨q00, q01, q02, q03, _⟩ := E0.four
  have F0 := E0.alloc (.cells #[.int .i64 st, .int .i64 rs, .slice A2 n2 c2, .int .i64 la] 46)
  have F1 := (B1.under b2).alloc (.cells #[.int .i64 st, .int .i64 rs, .slice A2 n2 c2, .int .i64 la] 46)
  have Z3 := ZVar.laid N2 hs2 st rs la
  have b3 : Below w.heap.size w (w2.alloc (.cells #[.int .i64 st, .int .i64 rs, .slice A2 n2 c2, .int .i64 la] 46)) := (b1.trans (b2.mono (by omega))).alloc (by omega) _
  go_wp2_with fail
  generalize hW3 : w2.alloc (.cells #[.int .i64 st, .int .i64 rs, .slice A2 n2 c2, .int .i64 la] 46) = W3 at *
  refine (ztaken_any st W3).mono ?_
  rintro e w4 ⟨rfl, b4⟩
  rw [takenF]
  have Z4 := Z3.under b4
  have b5 := b3.trans (b4.mono b3.size)
  have R4 := F1.under b4
  have hfd := fd2
  go_wp2_with fail
  clear hfd
  refine (zerrorUnless_any _ w4).mono ?_
  rintro e w5 ⟨rfl, rfl⟩
  go_wp2_with fail
  by_cases hst : st = 1
  · simp only [show unlessF (decide (st = 1)) = 0 by simp [unlessF, hst]]
    refine (zdoUnless_do _ _ w4 _ (fun _ => by kernel_rfl) ZPost.end_ (zClose1_any _ _ _ st rs la A2 n2 c2 l w4 Z4)).mono ?_
    rintro e w6 ⟨rfl, A6, n6, c6, _, B6, O6, b6⟩
    obtain ⟨d0, d1, d2, d3, _⟩ := B6.four
    have B7 := R4.below b6 (by omega)
    obtain ⟨g0, g1, g2, g3, f0, f1, f2, f3⟩ := B7.four
    have b7 := b5.trans (b6.mono (by omega))
    go_wp2
    try simp only [Exit.inBlock, Exit.then]
    rw [show cloSt st = 2 by simp [cloSt, hst], show cloEr st = 0 by simp [cloEr, hst]]
    exact ret_zone2 rfl rfl rfl B7 O6 (by omega) (by omega) b7
  · simp only [show unlessF (decide (st = 1)) = 30 by simp [unlessF, hst]]
    refine (zdoUnless_no 30 rfl _ w4).mono ?_
    rintro e w6 ⟨rfl, rfl⟩
    obtain ⟨d0, d1, d2, d3, _⟩ := Z4.blk.four
    obtain ⟨g0, g1, g2, g3, f0, f1, f2, f3⟩ := R4.four
    go_wp2
    try simp only [Exit.inBlock, Exit.then]
    rw [show cloSt st = st by simp [cloSt, hst], show cloEr st = 30 by simp [cloEr, hst]]
    exact ret_zone2 rfl rfl rfl R4 Z4.own (by omega) (by omega) b5

theorem zFlush_any (st rs la : Int) (A : Option Addr) (n c : Nat) (l : List UInt8) (w : World) (h : Sl w A n c (l.map v8)) (hn : n ≤ 10000000000000) :
    Calls Try.prog 53 #[.agg #[.int .i64 st, .int .i64 rs, .slice A n c, .int .i64 la]] w (ZoneNew w st rs l l.length) := by
  have hll : Hid (l.length = n) := h.len8
  have b1 := (((Below.refl w.heap.size w).alloc (Nat.le_refl _) (.cells #[.int .i64 st, .int .i64 rs, .slice A n c, .int .i64 la] 46)).alloc (by simp <;> omega) (.cells #[.int .i64 0, .int .i64 0, .slice none 0 0, .int .i64 0] 46))
  have B0 := ((Blk.new w #[.int .i64 st, .int .i64 rs, .slice A n c, .int .i64 la] 46).alloc (.cells #[.int .i64 0, .int .i64 0, .slice none 0 0, .int .i64 0] 46))
  have B1 := (Blk.new (w.alloc (.cells #[.int .i64 st, .int .i64 rs, .slice A n c, .int .i64 la] 46)) #[.int .i64 0, .int .i64 0, .slice none 0 0, .int .i64 0] 46)
  simp only [World.size_alloc] at B1
  have H1 := h.below b1
  go_enter Try.func53, Try.ntmps53
  go_wp2_with fail
  generalize hW1 : ((w.alloc (.cells #[.int .i64 st, .int .i64 rs, .slice A n c, .int .i64 la] 46)).alloc (.cells #[.int .i64 0, .int .i64 0, .slice none 0 0, .int .i64 0] 46)) = W1 at *
  refine (zcopied_any st rs la A n c l W1 H1 hn).mono ?_
  rintro e w2 ⟨A2, n2, c2, rfl, N2, b2⟩
  have hs1 : W1.heap.size = w.heap.size + 2 := by rw [← hW1]; simp
  have hs2 := b2.size
  have hlt : w.heap.size < w2.heap.size ∧ w.heap.size + 1 < w2.heap.size := by omega
  have E0 := B0.under b2
  obtain ⟨q00, q01, q02, q03, _⟩ := E0.four
  have F0 := E0.alloc (.cells #[.int .i64 st, .int .i64 rs, .slice A2 n2 c2, .int .i64 la] 46)
  have F1 := (B1.under b2).alloc (.cells #[.int .i64 st, .int .i64 rs, .slice A2 n2 c2, .int .i64 la] 46)
  have Z3 := ZVar.laid N2 hs2 st rs la
  have b3 : Below w.heap.size w (w2.alloc (.cells #[.int .i64 st, .int .i64 rs, .slice A2 n2 c2, .int .i64 la] 46)) := (b1.trans (b2.mono (by omega))).alloc (by omega) _
  obtain ⟨g0, g1, g2, g3, f0, f1, f2, f3⟩ := (B1.under b2).four
  have hne : ¬ (w.heap.size + 1 = w2.heap.size) := by omega
  have hnl : Hid (((l.length : Nat) : Int) = n2) := congrArg Int.ofNat N2.sl.len8
  go_wp2
  try simp only [Exit.inBlock, Exit.then]
  obtain ⟨h1, h2, h3⟩ := zone_stored (st := st) (rs := rs) (la := (n2 : Int)) (B1.under b2) N2 (by omega) (by omega) (b1.trans (b2.mono (by omega)))
  rw [hnl.out]
  exact ret_blk rfl rfl (h1.alloc _) Try.underlying46 (by kernel_rfl) (ZoneNew.mk (World.ownsRow.alloc h2 _) (h3.alloc h3.size _))

/-- Whether a zone takes a reset; what it is behind it, and the error. -/
def resB (st rs : Int) : Bool := decide (0 ≤ rs) && decide (rs < 1073741824) && decide (0 ≤ st ∧ st ≤ 3)
def resSt (st rs : Int) : Int := if resB st rs then 0 else st
def resRs (st rs : Int) : Int := if resB st rs then rs + 1 else rs
def resLa (st rs la : Int) : Int := if resB st rs then 0 else la
def resDa (st rs : Int) (l : List UInt8) : List UInt8 := if resB st rs then [] else l
def resEr (st rs : Int) : Int := if resB st rs then 0 else 30
theorem wrap64_small {x : Int} (h0 : -9223372036854775808 ≤ x) (h1 : x < 9223372036854775808) : wrap64 x = x := by
  unfold wrap64
  omega

set_option maxHeartbeats 400000 in
theorem zReset_any (st rs la : Int) (A : Option Addr) (n c : Nat) (l : List UInt8) (w : World) (h : Sl w A n c (l.map v8)) (hn : n ≤ 10000000000000) :
    Calls Try.prog 49 #[.agg #[.int .i64 st, .int .i64 rs, .slice A n c, .int .i64 la]] w (ZoneErr w (resSt st rs) (resRs st rs) (resDa st rs l) (resLa st rs la) (resEr st rs)) := by
  by_cases hr : (decide (0 ≤ rs) && decide (rs < 1073741824)) = true
  · have hr1 : 0 ≤ rs ∧ rs < 1073741824 := by simpa using hr
    have b1 := (((Below.refl w.heap.size w).alloc (Nat.le_refl _) (.cells #[.int .i64 st, .int .i64 rs, .slice A n c, .int .i64 la] 46)).alloc (by simp <;> omega) (.cells #[.int .i64 0, .int .i64 0, .slice none 0 0, .int .i64 0] 46))
    have B0 := ((Blk.new w #[.int .i64 st, .int .i64 rs, .slice A n c, .int .i64 la] 46).alloc (.cells #[.int .i64 0, .int .i64 0, .slice none 0 0, .int .i64 0] 46))
    have B1 := (Blk.new (w.alloc (.cells #[.int .i64 st, .int .i64 rs, .slice A n c, .int .i64 la] 46)) #[.int .i64 0, .int .i64 0, .slice none 0 0, .int .i64 0] 46)
    simp only [World.size_alloc] at B1
    have H1 := h.below b1
    go_enter Try.func49, Try.ntmps49
    go_wp2_with fail
    generalize hW1 : ((w.alloc (.cells #[.int .i64 st, .int .i64 rs, .slice A n c, .int .i64 la] 46)).alloc (.cells #[.int .i64 0, .int .i64 0, .slice none 0 0, .int .i64 0] 46)) = W1 at *
    refine (zcopied_any st rs la A n c l W1 H1 hn).mono ?_
    rintro e w2 ⟨A2, n2, c2, rfl, N2, b2⟩
    have hs1 : W1.heap.size = w.heap.size + 2 := by rw [← hW1]; simp
    have hs2 := b2.size
    have hlt : w.heap.size < w2.heap.size ∧ w.heap.size + 1 < w2.heap.size := by omega
    have E0 := B0.under b2
    obtain ⟨q00, q01, q02, q03, _⟩ := E0.four
    have F0 := E0.alloc (.cells #[.int .i64 st, .int .i64 rs, .slice A2 n2 c2, .int .i64 la] 46)
    have F1 := (B1.under b2).alloc (.cells #[.int .i64 st, .int .i64 rs, .slice A2 n2 c2, .int .i64 la] 46)
    have Z3 := ZVar.laid N2 hs2 st rs la
    have b3 : Below w.heap.size w (w2.alloc (.cells #[.int .i64 st, .int .i64 rs, .slice A2 n2 c2, .int .i64 la] 46)) := (b1.trans (b2.mono (by omega))).alloc (by omega) _
    go_wp2_with fail
    generalize hW3 : w2.alloc (.cells #[.int .i64 st, .int .i64 rs, .slice A2 n2 c2, .int .i64 la] 46) = W3 at *
    refine (ztaken_any st W3).mono ?_
    rintro e w4 ⟨rfl, b4⟩
    rw [takenF]
    have Z4 := Z3.under b4
    have b5 := b3.trans (b4.mono b3.size)
    have R4 := F1.under b4
    have G4 := F0.under b4
    have hfd := fd0
    go_wp2_with fail
    clear hfd
    refine (zerrorUnless_any _ w4).mono ?_
    rintro e w5 ⟨rfl, rfl⟩
    go_wp2_with fail
    by_cases hst : 0 ≤ st ∧ st ≤ 3
    · have hB : resB st rs = true := by simp [resB, hr1, hst]
      simp only [show unlessF (decide (0 ≤ st) && decide (st ≤ 3)) = 0 by simp [unlessF, hst]]
      refine (zdoUnless_do _ _ w4 _ (fun _ => by kernel_rfl) ZPost.end_ (zReset1_any _ _ _ _ st rs la st rs la A2 A n2 c2 n c l w4 Z4 G4 (wrap64_small (by omega) (by omega)))).mono ?_
      rintro e w6 ⟨rfl, A6, n6, c6, _, B6, O6, b6⟩
      obtain ⟨d0, d1, d2, d3, _⟩ := B6.four
      have B7 := R4.below b6 (by omega)
      obtain ⟨g0, g1, g2, g3, f0, f1, f2, f3⟩ := B7.four
      have b7 := b5.trans (b6.mono (by omega))
      go_wp2
      try simp only [Exit.inBlock, Exit.then]
      rw [show resSt st rs = 0 by simp [resSt, hB], show resRs st rs = rs + 1 by simp [resRs, hB], show resDa st rs l = [] by simp [resDa, hB], show resLa st rs la = 0 by simp [resLa, hB], show resEr st rs = 0 by simp [resEr, hB]]
      exact ret_zone2 rfl rfl rfl B7 O6 (by omega) (by omega) b7
    · have hB : resB st rs = false := by simp [resB, hr1]; omega
      simp only [show unlessF (decide (0 ≤ st) && decide (st ≤ 3)) = 30 by simp [unlessF]; omega]
      refine (zdoUnless_no 30 rfl _ w4).mono ?_
      rintro e w6 ⟨rfl, rfl⟩
      obtain ⟨d0, d1, d2, d3, _⟩ := Z4.blk.four
      obtain ⟨g0, g1, g2, g3, f0, f1, f2, f3⟩ := R4.four
      go_wp2
      try simp only [Exit.inBlock, Exit.then]
      rw [show resSt st rs = st by simp [resSt, hB], show resRs st rs = rs by simp [resRs, hB], show resDa st rs l = l by simp [resDa, hB], show resLa st rs la = la by simp [resLa, hB], show resEr st rs = 30 by simp [resEr, hB]]
      exact ret_zone2 rfl rfl rfl R4 Z4.own (by omega) (by omega) b5
  · have hr1 : rs < 0 ∨ 1073741824 ≤ rs := by simp at hr; omega
    rcases hr1 with hr1 | hr1
    · have hB : Hid (resB st rs = false) := by show resB st rs = false; simp [resB]; omega
      clear hr
      have b1 := (((Below.refl w.heap.size w).alloc (Nat.le_refl _) (.cells #[.int .i64 st, .int .i64 rs, .slice A n c, .int .i64 la] 46)).alloc (by simp <;> omega) (.cells #[.int .i64 0, .int .i64 0, .slice none 0 0, .int .i64 0] 46))
      have B0 := ((Blk.new w #[.int .i64 st, .int .i64 rs, .slice A n c, .int .i64 la] 46).alloc (.cells #[.int .i64 0, .int .i64 0, .slice none 0 0, .int .i64 0] 46))
      have B1 := (Blk.new (w.alloc (.cells #[.int .i64 st, .int .i64 rs, .slice A n c, .int .i64 la] 46)) #[.int .i64 0, .int .i64 0, .slice none 0 0, .int .i64 0] 46)
      simp only [World.size_alloc] at B1
      have H1 := h.below b1
      go_enter Try.func49, Try.ntmps49
      go_wp2_with fail
      generalize hW1 : ((w.alloc (.cells #[.int .i64 st, .int .i64 rs, .slice A n c, .int .i64 la] 46)).alloc (.cells #[.int .i64 0, .int .i64 0, .slice none 0 0, .int .i64 0] 46)) = W1 at *
      refine (zcopied_any st rs la A n c l W1 H1 hn).mono ?_
      rintro e w2 ⟨A2, n2, c2, rfl, N2, b2⟩
      have hs1 : W1.heap.size = w.heap.size + 2 := by rw [← hW1]; simp
      have hs2 := b2.size
      have hlt : w.heap.size < w2.heap.size ∧ w.heap.size + 1 < w2.heap.size := by omega
      have E0 := B0.under b2
      obtain ⟨q00, q01, q02, q03, _⟩ := E0.four
      have F0 := E0.alloc (.cells #[.int .i64 st, .int .i64 rs, .slice A2 n2 c2, .int .i64 la] 46)
      have F1 := (B1.under b2).alloc (.cells #[.int .i64 st, .int .i64 rs, .slice A2 n2 c2, .int .i64 la] 46)
      have Z3 := ZVar.laid N2 hs2 st rs la
      have b3 : Below w.heap.size w (w2.alloc (.cells #[.int .i64 st, .int .i64 rs, .slice A2 n2 c2, .int .i64 la] 46)) := (b1.trans (b2.mono (by omega))).alloc (by omega) _
      go_wp2_with fail
      generalize hW3 : w2.alloc (.cells #[.int .i64 st, .int .i64 rs, .slice A2 n2 c2, .int .i64 la] 46) = W3 at *
      refine (zerrorUnless_any _ W3).mono ?_
      rintro e w5 ⟨rfl, rfl⟩
      have R4 := F1
      have Z4 := Z3
      have b5 := b3
      go_wp2_with fail
      have hB := hB.out
      simp only [show unlessF false = 30 from rfl]
      refine (zdoUnless_no 30 rfl _ W3).mono ?_
      rintro e w6 ⟨rfl, rfl⟩
      obtain ⟨d0, d1, d2, d3, _⟩ := Z4.blk.four
      obtain ⟨g0, g1, g2, g3, f0, f1, f2, f3⟩ := R4.four
      go_wp2
      try simp only [Exit.inBlock, Exit.then]
      rw [show resSt st rs = st by simp [resSt, hB], show resRs st rs = rs by simp [resRs, hB], show resDa st rs l = l by simp [resDa, hB], show resLa st rs la = la by simp [resLa, hB], show resEr st rs = 30 by simp [resEr, hB]]
      exact ret_zone2 rfl rfl rfl R4 Z4.own (by omega) (by omega) b5
    · have hB : Hid (resB st rs = false) := by show resB st rs = false; simp [resB]; omega
      clear hr
      have b1 := (((Below.refl w.heap.size w).alloc (Nat.le_refl _) (.cells #[.int .i64 st, .int .i64 rs, .slice A n c, .int .i64 la] 46)).alloc (by simp <;> omega) (.cells #[.int .i64 0, .int .i64 0, .slice none 0 0, .int .i64 0] 46))
      have B0 := ((Blk.new w #[.int .i64 st, .int .i64 rs, .slice A n c, .int .i64 la] 46).alloc (.cells #[.int .i64 0, .int .i64 0, .slice none 0 0, .int .i64 0] 46))
      have B1 := (Blk.new (w.alloc (.cells #[.int .i64 st, .int .i64 rs, .slice A n c, .int .i64 la] 46)) #[.int .i64 0, .int .i64 0, .slice none 0 0, .int .i64 0] 46)
      simp only [World.size_alloc] at B1
      have H1 := h.below b1
      go_enter Try.func49, Try.ntmps49
      go_wp2_with fail
      generalize hW1 : ((w.alloc (.cells #[.int .i64 st, .int .i64 rs, .slice A n c, .int .i64 la] 46)).alloc (.cells #[.int .i64 0, .int .i64 0, .slice none 0 0, .int .i64 0] 46)) = W1 at *
      refine (zcopied_any st rs la A n c l W1 H1 hn).mono ?_
      rintro e w2 ⟨A2, n2, c2, rfl, N2, b2⟩
      have hs1 : W1.heap.size = w.heap.size + 2 := by rw [← hW1]; simp
      have hs2 := b2.size
      have hlt : w.heap.size < w2.heap.size ∧ w.heap.size + 1 < w2.heap.size := by omega
      have E0 := B0.under b2
      obtain ⟨q00, q01, q02, q03, _⟩ := E0.four
      have F0 := E0.alloc (.cells #[.int .i64 st, .int .i64 rs, .slice A2 n2 c2, .int .i64 la] 46)
      have F1 := (B1.under b2).alloc (.cells #[.int .i64 st, .int .i64 rs, .slice A2 n2 c2, .int .i64 la] 46)
      have Z3 := ZVar.laid N2 hs2 st rs la
      have b3 : Below w.heap.size w (w2.alloc (.cells #[.int .i64 st, .int .i64 rs, .slice A2 n2 c2, .int .i64 la] 46)) := (b1.trans (b2.mono (by omega))).alloc (by omega) _
      go_wp2_with fail
      generalize hW3 : w2.alloc (.cells #[.int .i64 st, .int .i64 rs, .slice A2 n2 c2, .int .i64 la] 46) = W3 at *
      refine (zerrorUnless_any _ W3).mono ?_
      rintro e w5 ⟨rfl, rfl⟩
      have R4 := F1
      have Z4 := Z3
      have b5 := b3
      go_wp2_with fail
      have hB := hB.out
      simp only [show unlessF false = 30 from rfl]
      refine (zdoUnless_no 30 rfl _ W3).mono ?_
      rintro e w6 ⟨rfl, rfl⟩
      obtain ⟨d0, d1, d2, d3, _⟩ := Z4.blk.four
      obtain ⟨g0, g1, g2, g3, f0, f1, f2, f3⟩ := R4.four
      go_wp2
      try simp only [Exit.inBlock, Exit.then]
      rw [show resSt st rs = st by simp [resSt, hB], show resRs st rs = rs by simp [resRs, hB], show resDa st rs l = l by simp [resDa, hB], show resLa st rs la = la by simp [resLa, hB], show resEr st rs = 30 by simp [resEr, hB]]
      exact ret_zone2 rfl rfl rfl R4 Z4.own (by omega) (by omega) b5

/-- Append: the state and the bytes behind it. -/
def appSt (st rs n la size m : Int) : Int := if appErrF st rs n la size m = 0 then fullF (n + m) size else st
def appDa (st rs n la size m : Int) (l b : List UInt8) : List UInt8 := if appErrF st rs n la size m = 0 then l ++ b else l

set_option maxHeartbeats 400000 in
theorem zAppend_any (st rs la size : Int) (Ab : Option Addr) (nb cb : Nat) (b : List UInt8) (A : Option Addr) (n c : Nat) (l : List UInt8) (w : World) (h : Sl w A n c (l.map v8)) (hb : Sl w Ab nb cb (b.map v8)) (hn : n ≤ 10000000000000) (hnb : n + nb ≤ 10000000000000) :
    Calls Try.prog 48 #[.agg #[.int .i64 st, .int .i64 rs, .slice A n c, .int .i64 la], .int .i64 size, .slice Ab nb cb] w (ZoneErr w (appSt st rs n la size nb) rs (appDa st rs n la size nb l b) la (appErrF st rs n la size nb)) := by
  have b1 := (((((Below.refl w.heap.size w).alloc (Nat.le_refl _) (.cells #[.int .i64 st, .int .i64 rs, .slice A n c, .int .i64 la] 46)).alloc (by simp <;> omega) (.cells #[.int .i64 size] 3)).alloc (by simp <;> omega) (.cells #[.slice Ab nb cb] 31)).alloc (by simp <;> omega) (.cells #[.int .i64 0, .int .i64 0, .slice none 0 0, .int .i64 0] 46))
  have B0 := ((((Blk.new w #[.int .i64 st, .int .i64 rs, .slice A n c, .int .i64 la] 46).alloc (.cells #[.int .i64 size] 3)).alloc (.cells #[.slice Ab nb cb] 31)).alloc (.cells #[.int .i64 0, .int .i64 0, .slice none 0 0, .int .i64 0] 46))
  have B1 := (((Blk.new (w.alloc (.cells #[.int .i64 st, .int .i64 rs, .slice A n c, .int .i64 la] 46)) #[.int .i64 size] 3).alloc (.cells #[.slice Ab nb cb] 31)).alloc (.cells #[.int .i64 0, .int .i64 0, .slice none 0 0, .int .i64 0] 46))
  simp only [World.size_alloc] at B1
  have B2 := ((Blk.new ((w.alloc (.cells #[.int .i64 st, .int .i64 rs, .slice A n c, .int .i64 la] 46)).alloc (.cells #[.int .i64 size] 3)) #[.slice Ab nb cb] 31).alloc (.cells #[.int .i64 0, .int .i64 0, .slice none 0 0, .int .i64 0] 46))
  simp only [World.size_alloc] at B2
  have B3 := (Blk.new (((w.alloc (.cells #[.int .i64 st, .int .i64 rs, .slice A n c, .int .i64 la] 46)).alloc (.cells #[.int .i64 size] 3)).alloc (.cells #[.slice Ab nb cb] 31)) #[.int .i64 0, .int .i64 0, .slice none 0 0, .int .i64 0] 46)
  simp only [World.size_alloc] at B3
  have H1 := h.below b1
  go_enter Try.func48, Try.ntmps48
  go_wp2_with fail
  generalize hW1 : ((((w.alloc (.cells #[.int .i64 st, .int .i64 rs, .slice A n c, .int .i64 la] 46)).alloc (.cells #[.int .i64 size] 3)).alloc (.cells #[.slice Ab nb cb] 31)).alloc (.cells #[.int .i64 0, .int .i64 0, .slice none 0 0, .int .i64 0] 46)) = W1 at *
  refine (zcopied_any st rs la A n c l W1 H1 hn).mono ?_
  rintro e w2 ⟨A2, n2, c2, rfl, N2, b2⟩
  obtain rfl : n2 = n := by have h1 := N2.sl.len8; have h2 := h.len8; omega
  have hs1 : W1.heap.size = w.heap.size + 4 := by rw [← hW1]; simp
  have hs2 := b2.size
  have hlt : w.heap.size < w2.heap.size ∧ w.heap.size + 1 < w2.heap.size ∧ w.heap.size + 2 < w2.heap.size ∧ w.heap.size + 3 < w2.heap.size := by omega
  have E0 := B0.under b2
  obtain ⟨q00, q01, q02, q03, _⟩ := E0.four
  have F0 := E0.alloc (.cells #[.int .i64 st, .int .i64 rs, .slice A2 n2 c2, .int .i64 la] 46)
  have E1 := B1.under b2
  obtain ⟨q10, _⟩ := E1.one
  have F1 := E1.alloc (.cells #[.int .i64 st, .int .i64 rs, .slice A2 n2 c2, .int .i64 la] 46)
  have E2 := B2.under b2
  obtain ⟨q20, _⟩ := E2.one
  have F2 := E2.alloc (.cells #[.int .i64 st, .int .i64 rs, .slice A2 n2 c2, .int .i64 la] 46)
  have F3 := (B3.under b2).alloc (.cells #[.int .i64 st, .int .i64 rs, .slice A2 n2 c2, .int .i64 la] 46)
  have Z3 := ZVar.laid N2 hs2 st rs la
  have b3 : Below w.heap.size w (w2.alloc (.cells #[.int .i64 st, .int .i64 rs, .slice A2 n2 c2, .int .i64 la] 46)) := (b1.trans (b2.mono (by omega))).alloc (by omega) _
  go_wp2_with fail
  generalize hW3 : w2.alloc (.cells #[.int .i64 st, .int .i64 rs, .slice A2 n2 c2, .int .i64 la] 46) = W3 at *
  refine (zappendError_any st rs la size nb A n2 c W3).mono ?_
  rintro e w4 ⟨rfl, b4⟩
  have Z4 := Z3.under b4
  have b5 := b3.trans (b4.mono b3.size)
  have R4 := F3.under b4
  have hsb := hb.below b5
  obtain ⟨er, her⟩ : ∃ er, Hid (appErrF st rs n2 la size nb = er) := ⟨_, rfl⟩
  rw [her.out]
  go_wp2_with fail
  by_cases h0 : er = 0
  · have h0' : appErrF st rs n2 la size nb = 0 := her.out.trans h0
    subst h0
    refine (zdoUnless_do _ _ w4 _ (fun _ => by kernel_rfl) ZPost.end_ (zAppend1_any _ _ _ _ _ _ _ st rs la size A2 Ab n2 c2 nb cb l b w4 Z4 (F2.under b4) (F1.under b4) (by omega) hsb (by omega) Z4.base_le)).mono ?_
    rintro e w6 ⟨rfl, A6, n6, c6, _, B6, O6, b6⟩
    obtain ⟨d0, d1, d2, d3, _⟩ := B6.four
    have B7 := R4.below b6 (by omega)
    obtain ⟨g0, g1, g2, g3, f0, f1, f2, f3⟩ := B7.four
    have b7 := b5.trans (b6.mono (by omega))
    go_wp2
    try simp only [Exit.inBlock, Exit.then]
    rw [show appSt st rs n2 la size nb = fullF ((n2 : Int) + nb) size by simp [appSt, h0'], show appDa st rs n2 la size nb l b = l ++ b by simp [appDa, h0'], h0']
    exact ret_zone2 rfl rfl rfl B7 O6 (by omega) (by omega) b7
  · have h0' : appErrF st rs n2 la size nb ≠ 0 := fun e => h0 (her.out.symm.trans e)
    refine (zdoUnless_no er (by simpa using h0) _ w4).mono ?_
    rintro e w6 ⟨rfl, rfl⟩
    obtain ⟨d0, d1, d2, d3, _⟩ := Z4.blk.four
    obtain ⟨g0, g1, g2, g3, f0, f1, f2, f3⟩ := R4.four
    go_wp2
    try simp only [Exit.inBlock, Exit.then]
    rw [show appSt st rs n2 la size nb = st by simp [appSt, h0'], show appDa st rs n2 la size nb l b = l by simp [appDa, h0'], her.out]
    exact ret_zone2 rfl rfl rfl R4 Z4.own (by omega) (by omega) b5

end Go.Proofs.Ytnjekhnheihooaa
