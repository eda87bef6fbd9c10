/-
  Merged: XExt2 XExt3 XExt4 XExt5 XExt6.
-/
import Derived.Test.YtagageidiebogaaExt1
import Derived.Lib.AppendZeros
import Derived.Deep.LoopGhost
import Derived.Test.YtagageidiebogaaJoin
import Derived.Test.YtagageidiebogaaRef7b
import Derived.Deep.Cut
/-
  Contracts of Grow and Concat (two rows of bytes).
-/
namespace Go.Wag
open Go.RowKit
set_option linter.unusedVariables false
theorem own_zero {w : World} {e : TypeId} {cs : Array Value} {c : Nat} (hc : cs.size = c) (hm : c ≤ 9223372036854775807) : (w.drew.alloc (.cells cs e)).ownsRow w.heap.size e 1 (.slice (some ⟨w.heap.size, 0, none⟩) 0 c) 0 [] :=
  ⟨by simp, .inr ⟨w.heap.size, c, cs, rfl, Nat.le_refl _, heap_alloc_new w.drew _, by omega, by simp only [maxLen]; omega, by simpa using hc, by simp⟩⟩
end Go.Wag
namespace Go.Proofs.Ytagageidiebogaa
open Go.RowKit Go.Wag
set_option linter.unusedVariables false
set_option maxRecDepth 20000
theorem un3 : Try.prog.underlying 3 = some (.int .i64) := by kernel_rfl
theorem eGrow_any (s : Nat) (w : World) (hs : s ≤ 10000000000000) :
    Calls Try.prog 47 #[.slice none 0 0, .int .i64 (s : Int)] w (ByNew w []) := by
  have e0 : wrap64 ((s : Int) - 0) = s := by unfold wrap64; omega
  have h1 : ¬ ((s : Int) < 0) := by omega
  by_cases h0 : s = 0
  · subst h0
    go_enter Try.func47, Try.ntmps47
    go_wp2
    go_ret
    exact ⟨none, 0, 0, rfl, Nw.nil _ _ _, Below.refl _ _⟩
  · have hp : (s : Int) > 0 := by omega
    obtain ⟨i0, hi, hz0, hz1, hz2⟩ := info_parts i5
    have hr := Lib.run_append_nil_zeros (P := Try.prog) w 37 3 37 5 i0 (.int .u8 0) .i64 .i64 Try.underlying37 un3 hi hz0 s (by omega) (by omega) (by omega) (by rw [hz2]; omega)
    have hO := own_zero (w := w) (e := 5) (c := grownCap w s 0 5) (cs := Builtin.zeroCells (Value.int .u8 0).cells s ++ Builtin.zeroCells (Value.int .u8 0).cells (grownCap w s 0 5 - s)) (by
      have := grownCap_ge w s 0 5
      simp [Builtin.zeroCells, Value.cells]
      omega) (by have := grownCap_le_maxLen w s 0 5 (by simp only [maxLen]; omega); simpa [maxLen] using this)
    have hb : Below w.heap.size w (w.drew.alloc (.cells (Builtin.zeroCells (Value.int .u8 0).cells s ++ Builtin.zeroCells (Value.int .u8 0).cells (grownCap w s 0 5 - s)) 5)) := ((Below.refl w.heap.size w).drew).alloc (by simp) _
    have hc0 : ¬ ((grownCap w s 0 5 : Nat) : Int) < 0 := by omega
    generalize hw : w.drew.alloc (.cells (Builtin.zeroCells (Value.int .u8 0).cells s ++ Builtin.zeroCells (Value.int .u8 0).cells (grownCap w s 0 5 - s)) 5) = w2 at *
    generalize grownCap w s 0 5 = cp at *
    go_enter Try.func47, Try.ntmps47
    go_wp2_with (at_builtin; refine Lib.wpList_append_run _ rfl _ _ _ _ rfl _ _ rfl rfl _ _ hr ?_)
    go_ret
    exact ⟨_, _, _, rfl, hO, hb⟩

def cat2 (l l2 : List UInt8) (k : Nat) : List UInt8 := if k = 0 then [] else if k = 1 then l else l ++ l2
set_option maxHeartbeats 1000000 in
theorem eConcat_any (gr : Nat) (t : TypeId) (A : Option Addr) (n c : Nat) (l : List UInt8) (A2 : Option Addr) (n2 c2 : Nat) (l2 : List UInt8) (w : World) (V : Blk w gr #[.slice A n c, .slice A2 n2 c2] t) (h : Sl w A n c (l.map v8)) (h2 : Sl w A2 n2 c2 (l2.map v8)) (hn : n ≤ 1000000) (hn2 : n2 ≤ 1000000) :
    Calls Try.prog 43 #[.slice (some ⟨gr, 0, none⟩) 2 2] w (ByNew w (l ++ l2)) := by
  have hl : l.length = n := h.len8
  have hl2 : l2.length = n2 := h2.len8
  obtain ⟨i0, hi, hz0, hz1, hz2⟩ := info_parts i5
  obtain ⟨q0, q1, _⟩ := V.two
  go_enter Try.func43, Try.ntmps43
  go_wp2_with fail
  go_loopg [3, 11] 2 (fun g x i wr => ∃ k : Nat, k + g = 2 ∧ x = .int .i64 (((cat2 l l2 k).length : Nat) : Int) ∧ i = .int .i64 (k : Int) ∧ w = wr)
  case atStart => exact ⟨0, by omega, rfl, rfl, rfl⟩
  case round =>
    obtain ⟨k, hk, rfl, rfl, rfl⟩ := hrel
    by_cases k0 : k = 0
    · subst k0
      obtain rfl : gk = 2 := by omega
      have e1 : wrap64 ((((cat2 l l2 0).length : Nat) : Int) + (n : Int)) = ((cat2 l l2 1).length : Nat) := by simp only [cat2]; unfold wrap64; simp [hl]; omega
      have e2 : ¬ (((cat2 l l2 1).length : Nat) : Int) < 0 := by omega
      go_wp2_with fail
      go_roundg 1
      case measure => omega
      case rel => exact ⟨1, by omega, rfl, rfl, rfl⟩
    · by_cases k1 : k = 1
      · subst k1
        obtain rfl : gk = 1 := by omega
        have e1 : wrap64 ((((cat2 l l2 1).length : Nat) : Int) + (n2 : Int)) = ((cat2 l l2 2).length : Nat) := by simp only [cat2]; unfold wrap64; simp [hl, hl2]; omega
        have e2 : ¬ (((cat2 l l2 2).length : Nat) : Int) < 0 := by omega
        go_wp2_with fail
        go_roundg 0
        case measure => omega
        case rel => exact ⟨2, by omega, rfl, rfl, rfl⟩
      · obtain rfl : k = 2 := by omega
        obtain rfl : gk = 0 := by omega
        have hs : (cat2 l l2 2).length ≤ 10000000000000 := by simp [cat2, hl, hl2]; omega
        have hC := eGrow_any (cat2 l l2 2).length w hs
        generalize (cat2 l l2 2).length = s at *
        go_wp2_with fail
        refine hC.mono ?_
        clear hC
        rintro e w1 ⟨A1, n1, c1, rfl, O1, b1⟩
        obtain rfl : 0 = n1 := by simpa using O1.1
        go_wp2_with fail
        go_loopg [6, 27] 2 (fun g x i wr => ∃ (k : Nat) (Ar : Option Addr) (nr cr : Nat), k + g = 2 ∧ x = .slice Ar nr cr ∧ i = .int .i64 (k : Int) ∧ Nw 5 w wr Ar nr cr ((cat2 l l2 k).map v8) ∧ Below w.heap.size w wr)
        case atStart => exact ⟨0, _, _, _, by omega, rfl, rfl, O1, b1⟩
        case round =>
          obtain ⟨k, Ar, nr, cr, hk, rfl, rfl, O, bb⟩ := hrel
          have hnr : (cat2 l l2 k).length = nr := by simpa using O.1
          have hV := V.under bb
          obtain ⟨q0, q1, _⟩ := hV.two
          have hs1 := h.below bb
          have hs2 := h2.below bb
          have HO := Own.start O bb.size
          by_cases k0 : k = 0
          · subst k0
            obtain rfl : gk = 2 := by omega
            obtain rfl : nr = 0 := by rw [← hnr]; rfl
            go_wp2_with (at_builtin; refine wpList_app rfl (.tmp 31) (.tmp 32) 37 rfl rfl HO i0 (.int .u8 0) 1 Try.underlying37 hi hz0 hz1 hz2 rfl _ _ _ _ rfl hs1 (oneCell8 _) (by omega) (by omega) ?_; intro A3 c3 w3 hw3)
            go_roundg 1
            case measure => omega
            case rel => exact ⟨1, _, _, _, by omega, rfl, rfl, by have := hw3.own; rw [← List.map_append, Nat.zero_add] at this; exact this, own_below O hw3 bb⟩
          · by_cases k1 : k = 1
            · subst k1
              obtain rfl : gk = 1 := by omega
              obtain rfl : nr = n := by rw [← hnr]; simpa [cat2] using hl
              go_wp2_with (at_builtin; refine wpList_app rfl (.tmp 31) (.tmp 32) 37 rfl rfl HO i0 (.int .u8 0) 1 Try.underlying37 hi hz0 hz1 hz2 rfl _ _ _ _ rfl hs2 (oneCell8 _) (by omega) (by omega) ?_; intro A3 c3 w3 hw3)
              go_roundg 0
              case measure => omega
              case rel => exact ⟨2, _, _, _, by omega, rfl, rfl, by have := hw3.own; rw [← List.map_append] at this; exact this, own_below O hw3 bb⟩
            · obtain rfl : k = 2 := by omega
              go_wp2
              go_ret
              exact ⟨_, _, _, rfl, O, bb⟩
end Go.Proofs.Ytagageidiebogaa

/-
  Contracts of Joins of extents, and the document's.
-/
namespace Go.Proofs.Ytagageidiebogaa
open Go.RowKit Go.Wag
set_option linter.unusedVariables false
set_option maxRecDepth 20000
def xjF (la1 n1 k1 g1 m1 la2 n2 k2 g2 m2 : Int) : Bool := xchk la1 n1 k1 g1 m1 && xchk la2 n2 k2 g2 m2 && decide (la1 + n1 = la2 ∧ k1 = k2 ∧ g1 = g2)
theorem xjF_eq (a b : Xp) : xjF a.la a.n a.k a.g a.l.length b.la b.n b.k b.g b.l.length = xjoins a b := rfl

set_option maxHeartbeats 1000000 in
theorem eJoins_any (la1 n1 k1 g1 : Int) (A1 : Option Addr) (m1 c1 : Nat) (la2 n2 k2 g2 : Int) (A2 : Option Addr) (m2 c2 : Nat) (w : World) (hla1 : la1 ≤ 9223372036854775807) (hla2 : la2 ≤ 9223372036854775807) :
    Calls Try.prog 25 #[.agg #[.int .i64 la1, .int .i64 n1, .int .i64 k1, .int .i64 g1, .slice A1 m1 c1], .agg #[.int .i64 la2, .int .i64 n2, .int .i64 k2, .int .i64 g2, .slice A2 m2 c2]] w fun e w' => e = .returned (.bool (xjF la1 n1 k1 g1 m1 la2 n2 k2 g2 m2)) ∧ Below w.heap.size w w' := by
  have V1 := (Blk.new w #[.int .i64 la1, .int .i64 n1, .int .i64 k1, .int .i64 g1, .slice A1 m1 c1] 41).alloc (.cells #[.int .i64 la2, .int .i64 n2, .int .i64 k2, .int .i64 g2, .slice A2 m2 c2] 41)
  have V2 := Blk.new (w.alloc (.cells #[.int .i64 la1, .int .i64 n1, .int .i64 k1, .int .i64 g1, .slice A1 m1 c1] 41)) #[.int .i64 la2, .int .i64 n2, .int .i64 k2, .int .i64 g2, .slice A2 m2 c2] 41
  have bb := ((Below.refl w.heap.size w).alloc (Nat.le_refl _) (.cells #[.int .i64 la1, .int .i64 n1, .int .i64 k1, .int .i64 g1, .slice A1 m1 c1] 41)).alloc (by simp) (.cells #[.int .i64 la2, .int .i64 n2, .int .i64 k2, .int .i64 g2, .slice A2 m2 c2] 41)
  simp only [World.size_alloc] at V2
  cases r1 : xchk la1 n1 k1 g1 m1
  · have hr : xjF la1 n1 k1 g1 m1 la2 n2 k2 g2 m2 = false := by simp [xjF, r1]
    rw [hr]
    go_enter Try.func25, Try.ntmps25
    obtain ⟨p0, p1, p2, p3, p4, _⟩ := V1.five
    obtain ⟨q0, q1, q2, q3, q4, _⟩ := V2.five
    go_wp2_with fail
    refine (eCheck_any la1 n1 k1 g1 A1 m1 c1 _ hla1).mono ?_
    rintro e w1 ⟨rfl, b1⟩
    replace V1 := V1.under b1
    replace V2 := V2.under b1
    replace bb := bb.trans (b1.mono bb.size)
    rw [r1]
    clear p0 p1 p2 p3 p4 q0 q1 q2 q3 q4
    obtain ⟨p0, p1, p2, p3, p4, _⟩ := V1.five
    obtain ⟨q0, q1, q2, q3, q4, _⟩ := V2.five
    go_wp2
    go_ret
    exact ⟨rfl, bb⟩
  · cases r2 : xchk la2 n2 k2 g2 m2
    · have hr : xjF la1 n1 k1 g1 m1 la2 n2 k2 g2 m2 = false := by simp [xjF, r2]
      rw [hr]
      go_enter Try.func25, Try.ntmps25
      obtain ⟨p0, p1, p2, p3, p4, _⟩ := V1.five
      obtain ⟨q0, q1, q2, q3, q4, _⟩ := V2.five
      go_wp2_with fail
      refine (eCheck_any la1 n1 k1 g1 A1 m1 c1 _ hla1).mono ?_
      rintro e w1 ⟨rfl, b1⟩
      replace V1 := V1.under b1
      replace V2 := V2.under b1
      replace bb := bb.trans (b1.mono bb.size)
      rw [r1]
      clear p0 p1 p2 p3 p4 q0 q1 q2 q3 q4
      obtain ⟨p0, p1, p2, p3, p4, _⟩ := V1.five
      obtain ⟨q0, q1, q2, q3, q4, _⟩ := V2.five
      go_wp2_with fail
      refine (eCheck_any la2 n2 k2 g2 A2 m2 c2 _ hla2).mono ?_
      rintro e w2 ⟨rfl, b2⟩
      replace V1 := V1.under b2
      replace V2 := V2.under b2
      replace bb := bb.trans (b2.mono bb.size)
      rw [r2]
      clear p0 p1 p2 p3 p4 q0 q1 q2 q3 q4
      obtain ⟨p0, p1, p2, p3, p4, _⟩ := V1.five
      obtain ⟨q0, q1, q2, q3, q4, _⟩ := V2.five
      go_wp2
      go_ret
      exact ⟨rfl, bb⟩
    · have x1 := xchk_all r1
      have x2 := xchk_all r2
      have hw : wrap64 (la1 + n1) = la1 + n1 := by unfold wrap64; omega
      have hj : xjF la1 n1 k1 g1 m1 la2 n2 k2 g2 m2 = decide (la1 + n1 = la2 ∧ k1 = k2 ∧ g1 = g2) := by simp [xjF, r1, r2]
      clear x1 x2
      by_cases y1 : la2 = la1 + n1
      · have z1 : (la2 == (la1 + n1)) = true := by simp [y1]
        by_cases y2 : k2 = k1
        · have z2 : (k2 == k1) = true := by simp [y2]
          by_cases y3 : g2 = g1
          · have z3 : (g2 == g1) = true := by simp [y3]
            have hr : xjF la1 n1 k1 g1 m1 la2 n2 k2 g2 m2 = true := by rw [hj]; simp; omega
            clear hj y1 y2 y3
            rw [hr]
            go_enter Try.func25, Try.ntmps25
            obtain ⟨p0, p1, p2, p3, p4, _⟩ := V1.five
            obtain ⟨q0, q1, q2, q3, q4, _⟩ := V2.five
            go_wp2_with fail
            refine (eCheck_any la1 n1 k1 g1 A1 m1 c1 _ hla1).mono ?_
            rintro e w1 ⟨rfl, b1⟩
            replace V1 := V1.under b1
            replace V2 := V2.under b1
            replace bb := bb.trans (b1.mono bb.size)
            rw [r1]
            clear p0 p1 p2 p3 p4 q0 q1 q2 q3 q4
            obtain ⟨p0, p1, p2, p3, p4, _⟩ := V1.five
            obtain ⟨q0, q1, q2, q3, q4, _⟩ := V2.five
            go_wp2_with fail
            refine (eCheck_any la2 n2 k2 g2 A2 m2 c2 _ hla2).mono ?_
            rintro e w2 ⟨rfl, b2⟩
            replace V1 := V1.under b2
            replace V2 := V2.under b2
            replace bb := bb.trans (b2.mono bb.size)
            rw [r2]
            clear p0 p1 p2 p3 p4 q0 q1 q2 q3 q4
            obtain ⟨p0, p1, p2, p3, p4, _⟩ := V1.five
            obtain ⟨q0, q1, q2, q3, q4, _⟩ := V2.five
            go_wp2
            go_ret
            exact ⟨rfl, bb⟩
          · have z3 : (g2 == g1) = false := by simp; omega
            have hr : xjF la1 n1 k1 g1 m1 la2 n2 k2 g2 m2 = false := by rw [hj]; simp; omega
            clear hj y1 y2 y3
            rw [hr]
            go_enter Try.func25, Try.ntmps25
            obtain ⟨p0, p1, p2, p3, p4, _⟩ := V1.five
            obtain ⟨q0, q1, q2, q3, q4, _⟩ := V2.five
            go_wp2_with fail
            refine (eCheck_any la1 n1 k1 g1 A1 m1 c1 _ hla1).mono ?_
            rintro e w1 ⟨rfl, b1⟩
            replace V1 := V1.under b1
            replace V2 := V2.under b1
            replace bb := bb.trans (b1.mono bb.size)
            rw [r1]
            clear p0 p1 p2 p3 p4 q0 q1 q2 q3 q4
            obtain ⟨p0, p1, p2, p3, p4, _⟩ := V1.five
            obtain ⟨q0, q1, q2, q3, q4, _⟩ := V2.five
            go_wp2_with fail
            refine (eCheck_any la2 n2 k2 g2 A2 m2 c2 _ hla2).mono ?_
            rintro e w2 ⟨rfl, b2⟩
            replace V1 := V1.under b2
            replace V2 := V2.under b2
            replace bb := bb.trans (b2.mono bb.size)
            rw [r2]
            clear p0 p1 p2 p3 p4 q0 q1 q2 q3 q4
            obtain ⟨p0, p1, p2, p3, p4, _⟩ := V1.five
            obtain ⟨q0, q1, q2, q3, q4, _⟩ := V2.five
            go_wp2
            go_ret
            exact ⟨rfl, bb⟩
        · have z2 : (k2 == k1) = false := by simp; omega
          have hr : xjF la1 n1 k1 g1 m1 la2 n2 k2 g2 m2 = false := by rw [hj]; simp; omega
          clear hj y1 y2
          rw [hr]
          go_enter Try.func25, Try.ntmps25
          obtain ⟨p0, p1, p2, p3, p4, _⟩ := V1.five
          obtain ⟨q0, q1, q2, q3, q4, _⟩ := V2.five
          go_wp2_with fail
          refine (eCheck_any la1 n1 k1 g1 A1 m1 c1 _ hla1).mono ?_
          rintro e w1 ⟨rfl, b1⟩
          replace V1 := V1.under b1
          replace V2 := V2.under b1
          replace bb := bb.trans (b1.mono bb.size)
          rw [r1]
          clear p0 p1 p2 p3 p4 q0 q1 q2 q3 q4
          obtain ⟨p0, p1, p2, p3, p4, _⟩ := V1.five
          obtain ⟨q0, q1, q2, q3, q4, _⟩ := V2.five
          go_wp2_with fail
          refine (eCheck_any la2 n2 k2 g2 A2 m2 c2 _ hla2).mono ?_
          rintro e w2 ⟨rfl, b2⟩
          replace V1 := V1.under b2
          replace V2 := V2.under b2
          replace bb := bb.trans (b2.mono bb.size)
          rw [r2]
          clear p0 p1 p2 p3 p4 q0 q1 q2 q3 q4
          obtain ⟨p0, p1, p2, p3, p4, _⟩ := V1.five
          obtain ⟨q0, q1, q2, q3, q4, _⟩ := V2.five
          go_wp2
          go_ret
          exact ⟨rfl, bb⟩
      · have z1 : (la2 == (la1 + n1)) = false := by simp; omega
        have hr : xjF la1 n1 k1 g1 m1 la2 n2 k2 g2 m2 = false := by rw [hj]; simp; omega
        clear hj y1
        rw [hr]
        go_enter Try.func25, Try.ntmps25
        obtain ⟨p0, p1, p2, p3, p4, _⟩ := V1.five
        obtain ⟨q0, q1, q2, q3, q4, _⟩ := V2.five
        go_wp2_with fail
        refine (eCheck_any la1 n1 k1 g1 A1 m1 c1 _ hla1).mono ?_
        rintro e w1 ⟨rfl, b1⟩
        replace V1 := V1.under b1
        replace V2 := V2.under b1
        replace bb := bb.trans (b1.mono bb.size)
        rw [r1]
        clear p0 p1 p2 p3 p4 q0 q1 q2 q3 q4
        obtain ⟨p0, p1, p2, p3, p4, _⟩ := V1.five
        obtain ⟨q0, q1, q2, q3, q4, _⟩ := V2.five
        go_wp2_with fail
        refine (eCheck_any la2 n2 k2 g2 A2 m2 c2 _ hla2).mono ?_
        rintro e w2 ⟨rfl, b2⟩
        replace V1 := V1.under b2
        replace V2 := V2.under b2
        replace bb := bb.trans (b2.mono bb.size)
        rw [r2]
        clear p0 p1 p2 p3 p4 q0 q1 q2 q3 q4
        obtain ⟨p0, p1, p2, p3, p4, _⟩ := V1.five
        obtain ⟨q0, q1, q2, q3, q4, _⟩ := V2.five
        go_wp2
        go_ret
        exact ⟨rfl, bb⟩

set_option maxHeartbeats 1000000 in
theorem fJoins_any (la1 n1 k1 g1 : Int) (A1 : Option Addr) (m1 c1 : Nat) (la2 n2 k2 g2 : Int) (A2 : Option Addr) (m2 c2 : Nat) (w : World) :
    Calls Try.prog 40 #[.agg #[.int .i64 la1, .int .i64 n1, .int .i64 k1, .int .i64 g1, .slice A1 m1 c1], .agg #[.int .i64 la2, .int .i64 n2, .int .i64 k2, .int .i64 g2, .slice A2 m2 c2]] w fun e w' => e = .returned (.bool (xjF la1 n1 k1 g1 m1 la2 n2 k2 g2 m2)) ∧ Below w.heap.size w w' := by
  have V1 := (Blk.new w #[.int .i64 la1, .int .i64 n1, .int .i64 k1, .int .i64 g1, .slice A1 m1 c1] 41).alloc (.cells #[.int .i64 la2, .int .i64 n2, .int .i64 k2, .int .i64 g2, .slice A2 m2 c2] 41)
  have V2 := Blk.new (w.alloc (.cells #[.int .i64 la1, .int .i64 n1, .int .i64 k1, .int .i64 g1, .slice A1 m1 c1] 41)) #[.int .i64 la2, .int .i64 n2, .int .i64 k2, .int .i64 g2, .slice A2 m2 c2] 41
  have bb := ((Below.refl w.heap.size w).alloc (Nat.le_refl _) (.cells #[.int .i64 la1, .int .i64 n1, .int .i64 k1, .int .i64 g1, .slice A1 m1 c1] 41)).alloc (by simp) (.cells #[.int .i64 la2, .int .i64 n2, .int .i64 k2, .int .i64 g2, .slice A2 m2 c2] 41)
  simp only [World.size_alloc] at V2
  cases r1 : xchk la1 n1 k1 g1 m1
  · have hr : xjF la1 n1 k1 g1 m1 la2 n2 k2 g2 m2 = false := by simp [xjF, r1]
    rw [hr]
    go_enter Try.func40, Try.ntmps40
    obtain ⟨p0, p1, p2, p3, p4, _⟩ := V1.five
    obtain ⟨q0, q1, q2, q3, q4, _⟩ := V2.five
    go_wp2_with fail
    refine (fCheck_any la1 n1 k1 g1 A1 m1 c1 _).mono ?_
    rintro e w1 ⟨rfl, b1⟩
    replace V1 := V1.under b1
    replace V2 := V2.under b1
    replace bb := bb.trans (b1.mono bb.size)
    rw [r1]
    clear p0 p1 p2 p3 p4 q0 q1 q2 q3 q4
    obtain ⟨p0, p1, p2, p3, p4, _⟩ := V1.five
    obtain ⟨q0, q1, q2, q3, q4, _⟩ := V2.five
    go_wp2_with fail
    refine (fCheck_any la2 n2 k2 g2 A2 m2 c2 _).mono ?_
    rintro e w2 ⟨rfl, b2⟩
    replace V1 := V1.under b2
    replace V2 := V2.under b2
    replace bb := bb.trans (b2.mono bb.size)
    rw [show xchk la2 n2 k2 g2 m2 = xchk la2 n2 k2 g2 m2 from rfl]
    clear p0 p1 p2 p3 p4 q0 q1 q2 q3 q4
    generalize xchk la2 n2 k2 g2 m2 = r2
    obtain ⟨p0, p1, p2, p3, p4, _⟩ := V1.five
    obtain ⟨q0, q1, q2, q3, q4, _⟩ := V2.five
    go_wp2
    go_ret
    exact ⟨rfl, bb⟩
  · cases r2 : xchk la2 n2 k2 g2 m2
    · have hr : xjF la1 n1 k1 g1 m1 la2 n2 k2 g2 m2 = false := by simp [xjF, r2]
      rw [hr]
      go_enter Try.func40, Try.ntmps40
      obtain ⟨p0, p1, p2, p3, p4, _⟩ := V1.five
      obtain ⟨q0, q1, q2, q3, q4, _⟩ := V2.five
      go_wp2_with fail
      refine (fCheck_any la1 n1 k1 g1 A1 m1 c1 _).mono ?_
      rintro e w1 ⟨rfl, b1⟩
      replace V1 := V1.under b1
      replace V2 := V2.under b1
      replace bb := bb.trans (b1.mono bb.size)
      rw [r1]
      clear p0 p1 p2 p3 p4 q0 q1 q2 q3 q4
      obtain ⟨p0, p1, p2, p3, p4, _⟩ := V1.five
      obtain ⟨q0, q1, q2, q3, q4, _⟩ := V2.five
      go_wp2_with fail
      refine (fCheck_any la2 n2 k2 g2 A2 m2 c2 _).mono ?_
      rintro e w2 ⟨rfl, b2⟩
      replace V1 := V1.under b2
      replace V2 := V2.under b2
      replace bb := bb.trans (b2.mono bb.size)
      rw [r2]
      clear p0 p1 p2 p3 p4 q0 q1 q2 q3 q4
      obtain ⟨p0, p1, p2, p3, p4, _⟩ := V1.five
      obtain ⟨q0, q1, q2, q3, q4, _⟩ := V2.five
      go_wp2
      go_ret
      exact ⟨rfl, bb⟩
    · have x1 := xchk_all r1
      have x2 := xchk_all r2
      have hw : wrap64 (la1 + n1) = la1 + n1 := by unfold wrap64; omega
      have hj : xjF la1 n1 k1 g1 m1 la2 n2 k2 g2 m2 = decide (la1 + n1 = la2 ∧ k1 = k2 ∧ g1 = g2) := by simp [xjF, r1, r2]
      clear x1 x2
      by_cases y1 : la2 = la1 + n1
      · have z1 : ((la1 + n1) == la2) = true := by simp [y1]
        by_cases y2 : k2 = k1
        · have z2 : (k1 == k2) = true := by simp [y2]
          by_cases y3 : g2 = g1
          · have z3 : (g1 == g2) = true := by simp [y3]
            have hr : xjF la1 n1 k1 g1 m1 la2 n2 k2 g2 m2 = true := by rw [hj]; simp; omega
            clear hj y1 y2 y3
            rw [hr]
            go_enter Try.func40, Try.ntmps40
            obtain ⟨p0, p1, p2, p3, p4, _⟩ := V1.five
            obtain ⟨q0, q1, q2, q3, q4, _⟩ := V2.five
            go_wp2_with fail
            refine (fCheck_any la1 n1 k1 g1 A1 m1 c1 _).mono ?_
            rintro e w1 ⟨rfl, b1⟩
            replace V1 := V1.under b1
            replace V2 := V2.under b1
            replace bb := bb.trans (b1.mono bb.size)
            rw [r1]
            clear p0 p1 p2 p3 p4 q0 q1 q2 q3 q4
            obtain ⟨p0, p1, p2, p3, p4, _⟩ := V1.five
            obtain ⟨q0, q1, q2, q3, q4, _⟩ := V2.five
            go_wp2_with fail
            refine (fCheck_any la2 n2 k2 g2 A2 m2 c2 _).mono ?_
            rintro e w2 ⟨rfl, b2⟩
            replace V1 := V1.under b2
            replace V2 := V2.under b2
            replace bb := bb.trans (b2.mono bb.size)
            rw [r2]
            clear p0 p1 p2 p3 p4 q0 q1 q2 q3 q4
            obtain ⟨p0, p1, p2, p3, p4, _⟩ := V1.five
            obtain ⟨q0, q1, q2, q3, q4, _⟩ := V2.five
            go_wp2
            go_ret
            exact ⟨rfl, bb⟩
          · have z3 : (g1 == g2) = false := by simp; omega
            have hr : xjF la1 n1 k1 g1 m1 la2 n2 k2 g2 m2 = false := by rw [hj]; simp; omega
            clear hj y1 y2 y3
            rw [hr]
            go_enter Try.func40, Try.ntmps40
            obtain ⟨p0, p1, p2, p3, p4, _⟩ := V1.five
            obtain ⟨q0, q1, q2, q3, q4, _⟩ := V2.five
            go_wp2_with fail
            refine (fCheck_any la1 n1 k1 g1 A1 m1 c1 _).mono ?_
            rintro e w1 ⟨rfl, b1⟩
            replace V1 := V1.under b1
            replace V2 := V2.under b1
            replace bb := bb.trans (b1.mono bb.size)
            rw [r1]
            clear p0 p1 p2 p3 p4 q0 q1 q2 q3 q4
            obtain ⟨p0, p1, p2, p3, p4, _⟩ := V1.five
            obtain ⟨q0, q1, q2, q3, q4, _⟩ := V2.five
            go_wp2_with fail
            refine (fCheck_any la2 n2 k2 g2 A2 m2 c2 _).mono ?_
            rintro e w2 ⟨rfl, b2⟩
            replace V1 := V1.under b2
            replace V2 := V2.under b2
            replace bb := bb.trans (b2.mono bb.size)
            rw [r2]
            clear p0 p1 p2 p3 p4 q0 q1 q2 q3 q4
            obtain ⟨p0, p1, p2, p3, p4, _⟩ := V1.five
            obtain ⟨q0, q1, q2, q3, q4, _⟩ := V2.five
            go_wp2
            go_ret
            exact ⟨rfl, bb⟩
        · have z2 : (k1 == k2) = false := by simp; omega
          have hr : xjF la1 n1 k1 g1 m1 la2 n2 k2 g2 m2 = false := by rw [hj]; simp; omega
          clear hj y1 y2
          rw [hr]
          go_enter Try.func40, Try.ntmps40
          obtain ⟨p0, p1, p2, p3, p4, _⟩ := V1.five
          obtain ⟨q0, q1, q2, q3, q4, _⟩ := V2.five
          go_wp2_with fail
          refine (fCheck_any la1 n1 k1 g1 A1 m1 c1 _).mono ?_
          rintro e w1 ⟨rfl, b1⟩
          replace V1 := V1.under b1
          replace V2 := V2.under b1
          replace bb := bb.trans (b1.mono bb.size)
          rw [r1]
          clear p0 p1 p2 p3 p4 q0 q1 q2 q3 q4
          obtain ⟨p0, p1, p2, p3, p4, _⟩ := V1.five
          obtain ⟨q0, q1, q2, q3, q4, _⟩ := V2.five
          go_wp2_with fail
          refine (fCheck_any la2 n2 k2 g2 A2 m2 c2 _).mono ?_
          rintro e w2 ⟨rfl, b2⟩
          replace V1 := V1.under b2
          replace V2 := V2.under b2
          replace bb := bb.trans (b2.mono bb.size)
          rw [r2]
          clear p0 p1 p2 p3 p4 q0 q1 q2 q3 q4
          obtain ⟨p0, p1, p2, p3, p4, _⟩ := V1.five
          obtain ⟨q0, q1, q2, q3, q4, _⟩ := V2.five
          go_wp2
          go_ret
          exact ⟨rfl, bb⟩
      · have z1 : ((la1 + n1) == la2) = false := by simp; omega
        have hr : xjF la1 n1 k1 g1 m1 la2 n2 k2 g2 m2 = false := by rw [hj]; simp; omega
        clear hj y1
        rw [hr]
        go_enter Try.func40, Try.ntmps40
        obtain ⟨p0, p1, p2, p3, p4, _⟩ := V1.five
        obtain ⟨q0, q1, q2, q3, q4, _⟩ := V2.five
        go_wp2_with fail
        refine (fCheck_any la1 n1 k1 g1 A1 m1 c1 _).mono ?_
        rintro e w1 ⟨rfl, b1⟩
        replace V1 := V1.under b1
        replace V2 := V2.under b1
        replace bb := bb.trans (b1.mono bb.size)
        rw [r1]
        clear p0 p1 p2 p3 p4 q0 q1 q2 q3 q4
        obtain ⟨p0, p1, p2, p3, p4, _⟩ := V1.five
        obtain ⟨q0, q1, q2, q3, q4, _⟩ := V2.five
        go_wp2_with fail
        refine (fCheck_any la2 n2 k2 g2 A2 m2 c2 _).mono ?_
        rintro e w2 ⟨rfl, b2⟩
        replace V1 := V1.under b2
        replace V2 := V2.under b2
        replace bb := bb.trans (b2.mono bb.size)
        rw [r2]
        clear p0 p1 p2 p3 p4 q0 q1 q2 q3 q4
        obtain ⟨p0, p1, p2, p3, p4, _⟩ := V1.five
        obtain ⟨q0, q1, q2, q3, q4, _⟩ := V2.five
        go_wp2
        go_ret
        exact ⟨rfl, bb⟩
end Go.Proofs.Ytagageidiebogaa

/-
  Contract of Cut (written by gen_ext4.py).
-/
namespace Go.Wag
open Go.RowKit
def x0 : Xp := ⟨0, 0, 0, 0, []⟩
theorem xcut_no {x : Xp} {a m : Int} (h : ¬ (x.ok = true ∧ 0 ≤ a ∧ a ≤ 64 ∧ 0 ≤ m ∧ m ≤ 64 ∧ xlo x a < xhi x a m)) : xcut x a m = none := by
  unfold xcut
  rw [if_neg h]
theorem xcut_yes {x : Xp} {a m : Int} (h : x.ok = true ∧ 0 ≤ a ∧ a ≤ 64 ∧ 0 ≤ m ∧ m ≤ 64 ∧ xlo x a < xhi x a m) : xcut x a m = some (xpart x (xlo x a) (xhi x a m)) := by
  unfold xcut
  rw [if_pos h]
/-- Where a part's bytes lie. -/
theorem part_at {k la n : Int} {m : Nat} (hk : k = 2 → (m : Int) = 32 * n) (hk2 : k ≠ 2 → (m : Int) = 0) (hn : n ≤ 64) {s : Int} (h1 : la ≤ s) (h2 : s ≤ la + n) : ∃ lo : Nat, dbF k (s - la) = (lo : Int) ∧ lo ≤ m ∧ (k = 2 → (lo : Int) = 32 * (s - la)) ∧ (k ≠ 2 → lo = 0) := by
  by_cases h : k = 2
  · subst h
    refine ⟨(32 * (s - la)).toNat, ?_, ?_, ?_, ?_⟩
    · rw [dbF_data (by omega) (by omega)]; omega
    · have := hk rfl; omega
    · intro _; omega
    · intro h; exact absurd rfl h
  · exact ⟨0, dbF_none h, by omega, fun e => absurd e h, fun _ => rfl⟩
theorem part_bytes {la n k g : Int} {l : List UInt8} {s e : Int} {lo hi : Nat} (hl : k ≠ 2 → l = []) (h1 : la ≤ s) (h2 : s ≤ e) (l1 : k = 2 → (lo : Int) = 32 * (s - la)) (_ : k ≠ 2 → lo = 0) (u1 : k = 2 → (hi : Int) = 32 * (e - la)) (_ : k ≠ 2 → hi = 0) :
    ((l.map v8).take hi).drop lo = (xpart ⟨la, n, k, g, l⟩ s e).l.map v8 := by
  unfold xpart
  by_cases h : k = 2
  · have e1 : (32 * (e - la)).toNat = hi := by have := u1 h; omega
    have e2 : (32 * (s - la)).toNat = lo := by have := l1 h; omega
    simp only [e1, e2]
    rw [← List.map_take, ← List.map_drop]
  · rw [hl h]
    simp
end Go.Wag
namespace Go.Proofs.Ytagageidiebogaa
open Go.RowKit Go.Wag
set_option linter.unusedVariables false
set_option maxRecDepth 20000
/-- An extent in memory of its own, and a value beside it. -/
def EPost (u : Value) (w : World) (x : Xp) (e : Ending) (w' : World) : Prop :=
  ∃ A c, e = .returned (.tuple #[.agg #[.int .i64 x.la, .int .i64 x.n, .int .i64 x.k, .int .i64 x.g, .slice A x.l.length c], u]) ∧ Nw 5 w w' A x.l.length c (x.l.map v8) ∧ Below w.heap.size w w'
theorem EPost.none {w w' : World} (u : Value) (hb : Below w.heap.size w w') : EPost u w x0 (.returned (.tuple #[.agg #[.int .i64 0, .int .i64 0, .int .i64 0, .int .i64 0, .slice none 0 0], u])) w' := ⟨Option.none, 0, rfl, Nw.nil _ _ _, hb⟩
theorem EPost.some {w w' : World} {u : Value} {x : Xp} {s n k g : Int} {A : Option Addr} {m c : Nat} (h1 : x.la = s) (h2 : x.n = n) (h3 : x.k = k) (h4 : x.g = g) (h5 : x.l.length = m) (hN : Nw 5 w w' A m c (x.l.map v8)) (hb : Below w.heap.size w w') :
    EPost u w x (.returned (.tuple #[.agg #[.int .i64 s, .int .i64 n, .int .i64 k, .int .i64 g, .slice A m c], u])) w' := by
  subst h1 h2 h3 h4 h5
  exact ⟨A, c, rfl, hN, hb⟩
end Go.Proofs.Ytagageidiebogaa

/-
  Contract of Join (written by gen_ext5.py).
-/
namespace Go.Proofs.Ytagageidiebogaa
open Go.RowKit Go.Wag
set_option linter.unusedVariables false
set_option maxRecDepth 20000
theorem xjoin_no {a b : Xp} (h : xjoins a b = false) : xjoin a b = none := by simp [xjoin, h]
theorem xjoin_yes {a b : Xp} (h : xjoins a b = true) : xjoin a b = some (xboth a b) := by simp [xjoin, h]
set_option maxHeartbeats 2000000 in
theorem eJoin_any (la1 n1 k1 g1 : Int) (A1 : Option Addr) (m1 c1 : Nat) (l1 : List UInt8) (la2 n2 k2 g2 : Int) (A2 : Option Addr) (m2 c2 : Nat) (l2 : List UInt8) (w : World) (hla1 : la1 ≤ 9223372036854775807) (hla2 : la2 ≤ 9223372036854775807) (h1 : Sl w A1 m1 c1 (l1.map v8)) (h2 : Sl w A2 m2 c2 (l2.map v8)) :
    Calls Try.prog 26 #[.agg #[.int .i64 la1, .int .i64 n1, .int .i64 k1, .int .i64 g1, .slice A1 m1 c1], .agg #[.int .i64 la2, .int .i64 n2, .int .i64 k2, .int .i64 g2, .slice A2 m2 c2]] w (EPost (.int .i64 (errOf (xjoin ⟨la1, n1, k1, g1, l1⟩ ⟨la2, n2, k2, g2, l2⟩) 70)) w ((xjoin ⟨la1, n1, k1, g1, l1⟩ ⟨la2, n2, k2, g2, l2⟩).getD x0)) := by
  have e1 : l1.length = m1 := h1.len8
  have e2 : l2.length = m2 := h2.len8
  have V1 := ((Blk.new w #[.int .i64 la1, .int .i64 n1, .int .i64 k1, .int .i64 g1, .slice A1 m1 c1] 41).alloc (.cells #[.int .i64 la2, .int .i64 n2, .int .i64 k2, .int .i64 g2, .slice A2 m2 c2] 41)).alloc (.cells #[.int .i64 0, .int .i64 0, .int .i64 0, .int .i64 0, .slice none 0 0] 41)
  have V2 := (Blk.new (w.alloc (.cells #[.int .i64 la1, .int .i64 n1, .int .i64 k1, .int .i64 g1, .slice A1 m1 c1] 41)) #[.int .i64 la2, .int .i64 n2, .int .i64 k2, .int .i64 g2, .slice A2 m2 c2] 41).alloc (.cells #[.int .i64 0, .int .i64 0, .int .i64 0, .int .i64 0, .slice none 0 0] 41)
  have U := Blk.new ((w.alloc (.cells #[.int .i64 la1, .int .i64 n1, .int .i64 k1, .int .i64 g1, .slice A1 m1 c1] 41)).alloc (.cells #[.int .i64 la2, .int .i64 n2, .int .i64 k2, .int .i64 g2, .slice A2 m2 c2] 41)) #[.int .i64 0, .int .i64 0, .int .i64 0, .int .i64 0, .slice none 0 0] 41
  have bb := (((Below.refl w.heap.size w).alloc (Nat.le_refl _) (.cells #[.int .i64 la1, .int .i64 n1, .int .i64 k1, .int .i64 g1, .slice A1 m1 c1] 41)).alloc (by simp) (.cells #[.int .i64 la2, .int .i64 n2, .int .i64 k2, .int .i64 g2, .slice A2 m2 c2] 41)).alloc (by simp only [World.size_alloc]; omega) (.cells #[.int .i64 0, .int .i64 0, .int .i64 0, .int .i64 0, .slice none 0 0] 41)
  replace h1 := ((h1.alloc (.cells #[.int .i64 la1, .int .i64 n1, .int .i64 k1, .int .i64 g1, .slice A1 m1 c1] 41)).alloc (.cells #[.int .i64 la2, .int .i64 n2, .int .i64 k2, .int .i64 g2, .slice A2 m2 c2] 41)).alloc (.cells #[.int .i64 0, .int .i64 0, .int .i64 0, .int .i64 0, .slice none 0 0] 41)
  replace h2 := ((h2.alloc (.cells #[.int .i64 la1, .int .i64 n1, .int .i64 k1, .int .i64 g1, .slice A1 m1 c1] 41)).alloc (.cells #[.int .i64 la2, .int .i64 n2, .int .i64 k2, .int .i64 g2, .slice A2 m2 c2] 41)).alloc (.cells #[.int .i64 0, .int .i64 0, .int .i64 0, .int .i64 0, .slice none 0 0] 41)
  simp only [World.size_alloc] at U V2
  have hj : xjF la1 n1 k1 g1 m1 la2 n2 k2 g2 m2 = xjoins ⟨la1, n1, k1, g1, l1⟩ ⟨la2, n2, k2, g2, l2⟩ := by rw [← xjF_eq]; simp only [e1, e2]
  cases r : xjoins ⟨la1, n1, k1, g1, l1⟩ ⟨la2, n2, k2, g2, l2⟩
  · rw [xjoin_no r]
    rw [r] at hj
    go_enter Try.func26, Try.ntmps26
    obtain ⟨p0, p1, p2, p3, p4, _⟩ := V1.five
    obtain ⟨q0, q1, q2, q3, q4, _⟩ := V2.five
    go_wp2_with fail
    refine (eJoins_any la1 n1 k1 g1 A1 m1 c1 la2 n2 k2 g2 A2 m2 c2 _ hla1 hla2).mono ?_
    rintro e w1 ⟨rfl, b1⟩
    rw [hj]
    replace U := U.under b1
    replace bb := bb.trans (b1.mono bb.size)
    clear p0 p1 p2 p3 p4 q0 q1 q2 q3 q4
    obtain ⟨z0, z1, z2, z3, z4, y0, y1, y2, y3, y4⟩ := U.five
    go_wp2
    try simp only [Exit.inBlock, Exit.then]
    exact ret_blk2 rfl rfl (((((U.set 0 _).set 1 _).set 2 _).set 3 _).set 4 _) Try.underlying41 (by kernel_rfl) rfl (EPost.none _ (((((bb.setCell (p := ⟨w.heap.size + 1 + 1, 0, none⟩) (by simp; omega) _).setCell (p := ⟨w.heap.size + 1 + 1, 1, none⟩) (by simp; omega) _).setCell (p := ⟨w.heap.size + 1 + 1, 2, none⟩) (by simp; omega) _).setCell (p := ⟨w.heap.size + 1 + 1, 3, none⟩) (by simp; omega) _).setCell (p := ⟨w.heap.size + 1 + 1, 4, none⟩) (by simp; omega) _))
  rw [xjoin_yes r]
  rw [r] at hj
  have hx := xjoins_all r
  have y1 := Xp.all hx.1
  have y2 := Xp.all hx.2.1
  have z1 := Xp.len_le hx.1
  have z2 := Xp.len_le hx.2.1
  simp only at y1 y2 z1 z2
  have s1 : wrap64 (n1 + n2) = n1 + n2 := by unfold wrap64; omega
  have s2 : IntKind.i64.wrap (n1 + n2) = n1 + n2 := (IntWalk.i64_left _).trans s1
  clear y1 y2 hx
  go_enter Try.func26, Try.ntmps26
  obtain ⟨p0, p1, p2, p3, p4, _⟩ := V1.five
  obtain ⟨q0, q1, q2, q3, q4, _⟩ := V2.five
  go_wp2_with fail
  refine (eJoins_any la1 n1 k1 g1 A1 m1 c1 la2 n2 k2 g2 A2 m2 c2 _ hla1 hla2).mono ?_
  rintro e w1 ⟨rfl, b1⟩
  rw [hj]
  replace V1 := V1.under b1
  replace V2 := V2.under b1
  replace U := U.under b1
  replace h1 := h1.below b1
  replace h2 := h2.below b1
  replace bb := bb.trans (b1.mono bb.size)
  clear p0 p1 p2 p3 p4 q0 q1 q2 q3 q4 b1
  go_wp2_with fail
  refine wp_region_held_drew (S := fun w' => Below (w.heap.size + 1 + 1) w1 w') (by kernel_rfl) (Below.refl _ _).drew (fun hHeld => ?_)
  try dsimp only at hHeld
  have bd : Below (w.heap.size + 1 + 1) w1 w1.drew := (Below.refl (w.heap.size + 1 + 1) w1).drew
  replace h1 := h1.drew
  replace h2 := h2.drew
  replace U := U.drew
  generalize w1.drew = wd at *
  try simp only [Act.put, List.setIfInBounds_toArray, List.set_cons_zero, List.set_cons_succ]
  refine wpAnyH_take (i := 0) (v := ?_) (by simp only [List.getElem?_toArray, List.getElem?_cons_zero]; rfl) (by kernel_rfl) (by kernel_rfl) (by kernel_rfl) (by intro _ _ _ h; exact h) (Or.inl ⟨by rfl, ?_⟩) hHeld ?_
  rotate_left 1
  · intro wq hSw
    try dsimp only at hSw
    go_simp
    try (with_reducible rfl)
  try simp only [Act.put, List.setIfInBounds_toArray, List.set_cons_zero, List.set_cons_succ]
  refine wpAnyH_take (i := 1) (v := ?_) (by simp only [List.getElem?_toArray, List.getElem?_cons_succ, List.getElem?_cons_zero]; rfl) (by kernel_rfl) (by kernel_rfl) (by kernel_rfl) (by intro _ _ _ h; exact h) (Or.inl ⟨by rfl, ?_⟩) hHeld ?_
  rotate_left 1
  · intro wq hSw
    try dsimp only at hSw
    obtain ⟨x0, x1, x2, x3, x4, _⟩ := (V1.below hSw (by omega)).five
    go_simp
    try (with_reducible rfl)
  try simp only [Act.put, List.setIfInBounds_toArray, List.set_cons_zero, List.set_cons_succ]
  refine wpAnyH_take (i := 2) (v := ?_) (by simp only [List.getElem?_toArray, List.getElem?_cons_succ, List.getElem?_cons_zero]; rfl) (by kernel_rfl) (by kernel_rfl) (by kernel_rfl) (by intro _ _ _ h; exact h) (Or.inl ⟨by rfl, ?_⟩) hHeld ?_
  rotate_left 1
  · intro wq hSw
    try dsimp only at hSw
    go_simp
    try (with_reducible rfl)
  try simp only [Act.put, List.setIfInBounds_toArray, List.set_cons_zero, List.set_cons_succ]
  refine wpAnyH_take (i := 3) (v := ?_) (by simp only [List.getElem?_toArray, List.getElem?_cons_succ, List.getElem?_cons_zero]; rfl) (by kernel_rfl) (by kernel_rfl) (by kernel_rfl) (by intro _ _ _ h; exact h) (Or.inl ⟨by rfl, ?_⟩) hHeld ?_
  rotate_left 1
  · intro wq hSw
    try dsimp only at hSw
    obtain ⟨x0, x1, x2, x3, x4, _⟩ := (V1.below hSw (by omega)).five
    go_simp
    try (with_reducible rfl)
  try simp only [Act.put, List.setIfInBounds_toArray, List.set_cons_zero, List.set_cons_succ]
  refine wpAnyH_take (i := 4) (v := ?_) (by simp only [List.getElem?_toArray, List.getElem?_cons_succ, List.getElem?_cons_zero]; rfl) (by kernel_rfl) (by kernel_rfl) (by kernel_rfl) (by intro _ _ _ h; exact h) (Or.inl ⟨by rfl, ?_⟩) hHeld ?_
  rotate_left 1
  · intro wq hSw
    try dsimp only at hSw
    go_simp
    try (with_reducible rfl)
  try simp only [Act.put, List.setIfInBounds_toArray, List.set_cons_zero, List.set_cons_succ]
  refine wpAnyH_take (i := 5) (v := ?_) (by simp only [List.getElem?_toArray, List.getElem?_cons_succ, List.getElem?_cons_zero]; rfl) (by kernel_rfl) (by kernel_rfl) (by kernel_rfl) (by intro _ _ _ h; exact h) (Or.inl ⟨by rfl, ?_⟩) hHeld ?_
  rotate_left 1
  · intro wq hSw
    try dsimp only at hSw
    obtain ⟨x0, x1, x2, x3, x4, _⟩ := (V2.below hSw (by omega)).five
    go_simp
    try (with_reducible rfl)
  try simp only [Act.put, List.setIfInBounds_toArray, List.set_cons_zero, List.set_cons_succ]
  refine wpAnyH_take (i := 6) (v := ?_) (by simp only [List.getElem?_toArray, List.getElem?_cons_succ, List.getElem?_cons_zero]; rfl) (by kernel_rfl) (by kernel_rfl) (by kernel_rfl) (by intro _ _ _ h; exact h) (Or.inl ⟨by rfl, ?_⟩) hHeld ?_
  rotate_left 1
  · intro wq hSw
    try dsimp only at hSw
    go_simp
    try (with_reducible rfl)
  try simp only [Act.put, List.setIfInBounds_toArray, List.set_cons_zero, List.set_cons_succ]
  refine wpAnyH_take (i := 7) (v := ?_) (by simp only [List.getElem?_toArray, List.getElem?_cons_succ, List.getElem?_cons_zero]; rfl) (by kernel_rfl) (by kernel_rfl) (by kernel_rfl) (by intro _ _ _ h; exact h) (Or.inl ⟨by rfl, ?_⟩) hHeld ?_
  rotate_left 1
  · intro wq hSw
    try dsimp only at hSw
    go_simp
    try (with_reducible rfl)
  try simp only [Act.put, List.setIfInBounds_toArray, List.set_cons_zero, List.set_cons_succ]
  refine wpAnyH_take (i := 8) (v := ?_) (by simp only [List.getElem?_toArray, List.getElem?_cons_succ, List.getElem?_cons_zero]; rfl) (by kernel_rfl) (by kernel_rfl) (by kernel_rfl) (by intro _ _ _ h; exact h) (Or.inl ⟨by rfl, ?_⟩) hHeld ?_
  rotate_left 1
  · intro wq hSw
    try dsimp only at hSw
    obtain ⟨x0, x1, x2, x3, x4, _⟩ := (V1.below hSw (by omega)).five
    go_simp
    try (with_reducible rfl)
  try simp only [Act.put, List.setIfInBounds_toArray, List.set_cons_zero, List.set_cons_succ]
  refine wpAnyH_take (i := 9) (v := ?_) (by simp only [List.getElem?_toArray, List.getElem?_cons_succ, List.getElem?_cons_zero]; rfl) (by kernel_rfl) (by kernel_rfl) (by kernel_rfl) (by intro _ _ _ h; exact h) (Or.inl ⟨by rfl, ?_⟩) hHeld ?_
  rotate_left 1
  · intro wq hSw
    try dsimp only at hSw
    go_simp
    try (with_reducible rfl)
  try simp only [Act.put, List.setIfInBounds_toArray, List.set_cons_zero, List.set_cons_succ]
  refine wpAnyH_take (i := 10) (v := ?_) (by simp only [List.getElem?_toArray, List.getElem?_cons_succ, List.getElem?_cons_zero]; rfl) (by kernel_rfl) (by kernel_rfl) (by kernel_rfl) (by intro _ _ _ h; exact h) (Or.inl ⟨by rfl, ?_⟩) hHeld ?_
  rotate_left 1
  · intro wq hSw
    try dsimp only at hSw
    obtain ⟨x0, x1, x2, x3, x4, _⟩ := (V1.below hSw (by omega)).five
    go_simp
    try (with_reducible rfl)
  try simp only [Act.put, List.setIfInBounds_toArray, List.set_cons_zero, List.set_cons_succ]
  refine wpAnyH_take (i := 11) (v := ?_) (by simp only [List.getElem?_toArray, List.getElem?_cons_succ, List.getElem?_cons_zero]; rfl) (by kernel_rfl) (by kernel_rfl) (by kernel_rfl) (by intro _ _ _ h; exact h) (Or.inl ⟨by rfl, ?_⟩) hHeld ?_
  rotate_left 1
  · intro wq hSw
    try dsimp only at hSw
    go_simp
    try (with_reducible rfl)
  try simp only [Act.put, List.setIfInBounds_toArray, List.set_cons_zero, List.set_cons_succ]
  refine wpAnyH_take (i := 12) (v := ?_) (by simp only [List.getElem?_toArray, List.getElem?_cons_succ, List.getElem?_cons_zero]; rfl) (by kernel_rfl) (by kernel_rfl) (by kernel_rfl) (by intro _ _ _ h; exact h) (Or.inl ⟨by rfl, ?_⟩) hHeld ?_
  rotate_left 1
  · intro wq hSw
    try dsimp only at hSw
    obtain ⟨x0, x1, x2, x3, x4, _⟩ := (V1.below hSw (by omega)).five
    go_simp
    try (with_reducible rfl)
  try simp only [Act.put, List.setIfInBounds_toArray, List.set_cons_zero, List.set_cons_succ]
  refine wpAnyH_take (i := 13) (v := ?_) (by simp only [List.getElem?_toArray, List.getElem?_cons_succ, List.getElem?_cons_zero]; rfl) (by kernel_rfl) (by kernel_rfl) (by kernel_rfl) (by intro _ _ _ h; exact h) (Or.inl ⟨by rfl, ?_⟩) hHeld ?_
  rotate_left 1
  · intro wq hSw
    try dsimp only at hSw
    go_simp
    try (with_reducible rfl)
  try simp only [Act.put, List.setIfInBounds_toArray, List.set_cons_zero, List.set_cons_succ]
  refine wpAnyH_take (i := 14) (v := ?_) (by simp only [List.getElem?_toArray, List.getElem?_cons_succ, List.getElem?_cons_zero]; rfl) (by kernel_rfl) (by kernel_rfl) (by kernel_rfl) (by intro _ _ _ h; exact h) (Or.inl ⟨by rfl, ?_⟩) hHeld ?_
  rotate_left 1
  · intro wq hSw
    try dsimp only at hSw
    obtain ⟨x0, x1, x2, x3, x4, _⟩ := (V2.below hSw (by omega)).five
    go_simp
    try (with_reducible rfl)
  try simp only [Act.put, List.setIfInBounds_toArray, List.set_cons_zero, List.set_cons_succ]
  refine wpAnyH_ready (rs := [15]) (by kernel_rfl) (by simp) ?_
  refine AllReadyH.cons (by simp only [List.getElem?_toArray, List.getElem?_cons_succ, List.getElem?_cons_zero]; rfl) (fun K hK => ?_) AllReadyH.nil
  obtain ⟨kb, hkb⟩ : ∃ k, wd.heap.size = k := ⟨_, rfl⟩
  go_simp
  try simp only [hkb]
  have B := Blk.new wd #[.slice A1 m1 c1, .slice A2 m2 c2] 37
  rw [hkb] at B
  clear hkb
  replace bd := bd.alloc (Nat.le_of_lt U.lt) (.cells #[.slice A1 m1 c1, .slice A2 m2 c2] 37)
  replace U := U.alloc (.cells #[.slice A1 m1 c1, .slice A2 m2 c2] 37)
  replace h1 := h1.alloc (.cells #[.slice A1 m1 c1, .slice A2 m2 c2] 37)
  replace h2 := h2.alloc (.cells #[.slice A1 m1 c1, .slice A2 m2 c2] 37)
  generalize wd.alloc (.cells #[.slice A1 m1 c1, .slice A2 m2 c2] 37) = we at *
  refine hK.out _ _ (bd) (fun hHeld => ?_)
  clear hK K
  try dsimp only at hHeld
  try simp only [Act.put, List.setIfInBounds_toArray, List.set_cons_zero, List.set_cons_succ]
  refine wpAnyH_ready (rs := [16]) (by kernel_rfl) (by simp) ?_
  refine AllReadyH.cons (by simp only [List.getElem?_toArray, List.getElem?_cons_succ, List.getElem?_cons_zero]; rfl) (fun K hK => ?_) AllReadyH.nil
  go_simp
  refine (eConcat_any kb _ A1 m1 c1 l1 A2 m2 c2 l2 we B h1 h2 (by omega) (by omega)).mono ?_
  rintro e w6 ⟨A6, m6, c6, rfl, N6, b6⟩
  have hf6 : ∀ ad, A6 = some ad → ad.block ≠ w.heap.size + 1 + 1 := fun ad e => by have := N6.fr ad e; have := U.lt; omega
  replace N6 : Nw 5 w w6 A6 m6 c6 _ := Nw.mono (w1 := we) N6 (by have := U.lt; omega)
  replace bd := bd.trans (b6.mono (Nat.le_of_lt U.lt))
  replace U := U.under b6
  clear b6
  go_wp2_with fail
  refine hK.out _ _ (bd) (fun hHeld => ?_)
  clear hK K
  try dsimp only at hHeld
  try simp only [Act.put, List.setIfInBounds_toArray, List.set_cons_zero, List.set_cons_succ]
  refine wpAnyH_take (i := 17) (v := ?_) (by simp only [List.getElem?_toArray, List.getElem?_cons_succ, List.getElem?_cons_zero]; rfl) (by kernel_rfl) (by kernel_rfl) (by kernel_rfl) (by intro _ _ _ h; exact h) (Or.inl ⟨by rfl, ?_⟩) hHeld ?_
  rotate_left 1
  · intro wq hSw
    try dsimp only at hSw
    go_simp
    try (with_reducible rfl)
  try simp only [Act.put, List.setIfInBounds_toArray, List.set_cons_zero, List.set_cons_succ]
  refine wpAnyH_ready (rs := [18]) (by kernel_rfl) (by simp) ?_
  refine AllReadyH.cons (by simp only [List.getElem?_toArray, List.getElem?_cons_succ, List.getElem?_cons_zero]; rfl) (fun K hK => ?_) AllReadyH.nil
  obtain ⟨z0, z1, z2, z3, z4, y0, y1, y2, y3, y4⟩ := U.five
  go_simp
  have U2 := (((((U.set 0 (.int .i64 la1)).set 1 (.int .i64 (n1 + n2))).set 2 (.int .i64 k1)).set 3 (.int .i64 g1)).set 4 (.slice A6 m6 c6))
  simp only [List.setIfInBounds_toArray, List.set_cons_zero, List.set_cons_succ] at U2
  have bd2 := (((((bd.setCell (p := ⟨w.heap.size + 1 + 1, 0, none⟩) (Nat.le_refl _) (.int .i64 la1)).setCell (p := ⟨w.heap.size + 1 + 1, 1, none⟩) (Nat.le_refl _) (.int .i64 (n1 + n2))).setCell (p := ⟨w.heap.size + 1 + 1, 2, none⟩) (Nat.le_refl _) (.int .i64 k1)).setCell (p := ⟨w.heap.size + 1 + 1, 3, none⟩) (Nat.le_refl _) (.int .i64 g1)).setCell (p := ⟨w.heap.size + 1 + 1, 4, none⟩) (Nat.le_refl _) (.slice A6 m6 c6))
  have N7 := (((((N6.far (a := ⟨w.heap.size + 1 + 1, 0, none⟩) hf6 (.int .i64 la1)).far (a := ⟨w.heap.size + 1 + 1, 1, none⟩) hf6 (.int .i64 (n1 + n2))).far (a := ⟨w.heap.size + 1 + 1, 2, none⟩) hf6 (.int .i64 k1)).far (a := ⟨w.heap.size + 1 + 1, 3, none⟩) hf6 (.int .i64 g1)).far (a := ⟨w.heap.size + 1 + 1, 4, none⟩) hf6 (.slice A6 m6 c6))
  clear z0 z1 z2 z3 z4 y0 y1 y2 y3 y4 U bd N6
  generalize (((((w6.setCell ⟨w.heap.size + 1 + 1, 0, none⟩ (.int .i64 la1)).setCell ⟨w.heap.size + 1 + 1, 1, none⟩ (.int .i64 (n1 + n2))).setCell ⟨w.heap.size + 1 + 1, 2, none⟩ (.int .i64 k1)).setCell ⟨w.heap.size + 1 + 1, 3, none⟩ (.int .i64 g1)).setCell ⟨w.heap.size + 1 + 1, 4, none⟩ (.slice A6 m6 c6)) = w7 at *
  refine hK.out _ _ (bd2) (fun hHeld => ?_)
  clear hK K
  try dsimp only at hHeld
  try simp only [Act.put, List.setIfInBounds_toArray, List.set_cons_zero, List.set_cons_succ]
  refine wpAnyH_take (i := 19) (v := ?_) (by simp only [List.getElem?_toArray, List.getElem?_cons_succ, List.getElem?_cons_zero]; rfl) (by kernel_rfl) (by kernel_rfl) (by kernel_rfl) (by intro _ _ _ h; exact h) (Or.inl ⟨by rfl, ?_⟩) hHeld ?_
  rotate_left 1
  · intro wq hSw
    try dsimp only at hSw
    go_simp
    try (with_reducible rfl)
  try simp only [Act.put, List.setIfInBounds_toArray, List.set_cons_zero, List.set_cons_succ]
  refine wpAnyH_done (by kernel_rfl) ?_ _
  go_wp2
  try simp only [Exit.inBlock, Exit.then]
  exact ret_blk2 rfl rfl U2 Try.underlying41 (by kernel_rfl) rfl (EPost.some rfl rfl rfl rfl (by have := N7.1; simpa [xboth] using this) N7 (bb.trans (bd2.mono (by omega))))
end Go.Proofs.Ytagageidiebogaa

/-
  Contract of Write of extents.
-/
namespace Go.Wag
open Go.RowKit
set_option linter.unusedVariables false
theorem xnat64 {n : Nat} (h : n < 18446744073709551616) : ((UInt64.ofNat n).toNat : Int) = (n : Int) := by rw [UInt64.toNat_ofNat']; omega
theorem xwr_yes {l : List Xp} (h : l.length ≤ 64) (h2 : xallok l = true) : xwr l = some (UInt8.ofNat l.length :: xencs l) := by
  unfold xwr
  rw [if_pos ⟨h, h2⟩]
theorem xwr_long {l : List Xp} (h : ¬ l.length ≤ 64) : xwr l = none := by
  unfold xwr
  rw [if_neg (fun hh => h hh.1)]
theorem xwr_bad {l : List Xp} {i : Nat} {x : Xp} (hi : l[i]? = some x) (hx : x.ok = false) : xwr l = none := by
  unfold xwr
  rw [if_neg (fun hh => by
    have := xallok_all hh.2 x (List.mem_iff_getElem?.2 ⟨i, hi⟩)
    rw [hx] at this
    cases this)]
theorem xalloc_below {w w' : World} {o : Obj} (h : Below (w.alloc o).heap.size (w.alloc o) w') : Below w.heap.size w w' := ((Below.refl _ w).alloc (Nat.le_refl _) o).trans (h.mono (by simp))
/-- What stands when k extents are written. -/
def wrow (xs : List Xp) (k : Nat) : List UInt8 := UInt8.ofNat xs.length :: xencs (xs.take k)
theorem take_snoc {α : Type} {xs : List α} {k : Nat} {x : α} (h : xs[k]? = some x) : xs.take (k + 1) = xs.take k ++ [x] := by
  rw [List.take_add_one, h]
  rfl
theorem wrow_succ {xs : List Xp} {k : Nat} {x : Xp} (h : xs[k]? = some x) : wrow xs (k + 1) = (wrow xs k ++ xhead x) ++ x.l := by
  unfold wrow
  rw [take_snoc h, xencs_snoc]
  simp [xenc]
theorem wrow_end {xs : List Xp} {n : Nat} (hn : xs.length = n) (h : n ≤ 64) (ha : xallok (xs.take n) = true) : xwr xs = some (wrow xs n) := by
  have e : xs.take n = xs := List.take_of_length_le (by omega)
  unfold wrow
  rw [e] at ha ⊢
  exact xwr_yes (by omega) ha
theorem xallok_succ {xs : List Xp} {k : Nat} {x : Xp} (h : xs[k]? = some x) (ha : xallok (xs.take k) = true) (hx : x.ok = true) : xallok (xs.take (k + 1)) = true := by
  rw [take_snoc h, xallok_snoc, ha, hx]
  rfl
theorem leb_one {n : Nat} (h : n < 256) : leb 1 n = [UInt8.ofNat n] := by
  simp [leb]
theorem xpack1 {n : Nat} (h : n ≤ 64) : packF [98] [UInt64.ofNat n] = some [UInt8.ofNat n] := by
  have e1 : (UInt64.ofNat n).toNat = n := by rw [UInt64.toNat_ofNat']; omega
  have l1 : ltr ((98 : UInt8).toNat : Int) = 1 := by decide
  simp only [packF, l1, e1]
  rw [if_neg (by simp [fitsB]; omega)]
  simp [leb]
theorem xpack_head {la n k g m : Int} (h : xchk la n k g m = true) (l : List UInt8) : packF [98, 98, 98, 119] [UInt64.ofNat la.toNat, UInt64.ofNat n.toNat, UInt64.ofNat k.toNat, UInt64.ofNat g.toNat] = some (xhead ⟨la, n, k, g, l⟩) := by
  have h := xchk_all h
  have e1 : (UInt64.ofNat la.toNat).toNat = la.toNat := by rw [UInt64.toNat_ofNat']; omega
  have e2 : (UInt64.ofNat n.toNat).toNat = n.toNat := by rw [UInt64.toNat_ofNat']; omega
  have e3 : (UInt64.ofNat k.toNat).toNat = k.toNat := by rw [UInt64.toNat_ofNat']; omega
  have e4 : (UInt64.ofNat g.toNat).toNat = g.toNat := by rw [UInt64.toNat_ofNat']; omega
  have l1 : ltr ((98 : UInt8).toNat : Int) = 1 := by decide
  have l2 : ltr ((119 : UInt8).toNat : Int) = 4 := by decide
  simp only [packF, l1, l2, e1, e2, e3, e4]
  rw [if_neg (by simp [fitsB]; omega), if_neg (by simp [fitsB]; omega), if_neg (by simp [fitsB]; omega), if_neg (by simp [fitsB]; omega)]
  simp [xhead]
end Go.Wag
namespace Go.Proofs.Ytagageidiebogaa
open Go.RowKit Go.Wag
set_option linter.unusedVariables false
set_option maxRecDepth 20000
end Go.Proofs.Ytagageidiebogaa
