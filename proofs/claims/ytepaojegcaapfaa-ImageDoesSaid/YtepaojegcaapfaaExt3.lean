/-
  Contracts of Joins of extents, and the document's.
-/
import Derived.Test.YtepaojegcaapfaaRef7b
namespace Go.Proofs.Ytepaojegcaapfaa
open Go.RowKit Go.Wag
set_option linter.unusedVariables false
set_option maxRecDepth 20000
def xjF (la1 n1 k1 g1 m1 la2 n2 k2 g2 m2 : Int) : Bool := xchk la1 n1 k1 g1 m1 && xchk la2 n2 k2 g2 m2 && decide (la1 + n1 = la2 ∧ k1 = k2 ∧ g1 = g2)
theorem xjF_eq (a b : Xp) : xjF a.la a.n a.k a.g a.l.length b.la b.n b.k b.g b.l.length = xjoins a b := rfl

set_option maxHeartbeats 1000000 in
theorem eJoins_any (la1 n1 k1 g1 : Int) (A1 : Option Addr) (m1 c1 : Nat) (la2 n2 k2 g2 : Int) (A2 : Option Addr) (m2 c2 : Nat) (w : World) (hla1 : la1 ≤ 9223372036854775807) (hla2 : la2 ≤ 9223372036854775807) :
    Calls Try.prog 61 #[.agg #[.int .i64 la1, .int .i64 n1, .int .i64 k1, .int .i64 g1, .slice A1 m1 c1], .agg #[.int .i64 la2, .int .i64 n2, .int .i64 k2, .int .i64 g2, .slice A2 m2 c2]] w fun e w' => e = .returned (.bool (xjF la1 n1 k1 g1 m1 la2 n2 k2 g2 m2)) ∧ Below w.heap.size w w' := by
  have V1 := (Blk.new w #[.int .i64 la1, .int .i64 n1, .int .i64 k1, .int .i64 g1, .slice A1 m1 c1] 38).alloc (.cells #[.int .i64 la2, .int .i64 n2, .int .i64 k2, .int .i64 g2, .slice A2 m2 c2] 38)
  have V2 := Blk.new (w.alloc (.cells #[.int .i64 la1, .int .i64 n1, .int .i64 k1, .int .i64 g1, .slice A1 m1 c1] 38)) #[.int .i64 la2, .int .i64 n2, .int .i64 k2, .int .i64 g2, .slice A2 m2 c2] 38
  have bb := ((Below.refl w.heap.size w).alloc (Nat.le_refl _) (.cells #[.int .i64 la1, .int .i64 n1, .int .i64 k1, .int .i64 g1, .slice A1 m1 c1] 38)).alloc (by simp) (.cells #[.int .i64 la2, .int .i64 n2, .int .i64 k2, .int .i64 g2, .slice A2 m2 c2] 38)
  simp only [World.size_alloc] at V2
  cases r1 : xchk la1 n1 k1 g1 m1
  · have hr : xjF la1 n1 k1 g1 m1 la2 n2 k2 g2 m2 = false := by simp [xjF, r1]
    rw [hr]
    go_enter Try.func61, Try.ntmps61
    obtain ⟨p0, p1, p2, p3, p4, _⟩ := V1.five
    obtain ⟨q0, q1, q2, q3, q4, _⟩ := V2.five
    go_wp2_with fail
    refine (eCheck_any la1 n1 k1 g1 A1 m1 c1 _ hla1).mono ?_
    rintro e w1 ⟨rfl, b1⟩
    replace V1 := V1.under b1
    replace V2 := V2.under b1
    replace bb := bb.trans (b1.mono bb.size)
    rw [r1]
    clear p0 p1 p2 p3 p4 q0 q1 q2 q3 q4
    obtain ⟨p0, p1, p2, p3, p4, _⟩ := V1.five
    obtain ⟨q0, q1, q2, q3, q4, _⟩ := V2.five
    go_wp2
    go_ret
    exact ⟨rfl, bb⟩
  · cases r2 : xchk la2 n2 k2 g2 m2
    · have hr : xjF la1 n1 k1 g1 m1 la2 n2 k2 g2 m2 = false := by simp [xjF, r2]
      rw [hr]
      go_enter Try.func61, Try.ntmps61
      obtain ⟨p0, p1, p2, p3, p4, _⟩ := V1.five
      obtain ⟨q0, q1, q2, q3, q4, _⟩ := V2.five
      go_wp2_with fail
      refine (eCheck_any la1 n1 k1 g1 A1 m1 c1 _ hla1).mono ?_
      rintro e w1 ⟨rfl, b1⟩
      replace V1 := V1.under b1
      replace V2 := V2.under b1
      replace bb := bb.trans (b1.mono bb.size)
      rw [r1]
      clear p0 p1 p2 p3 p4 q0 q1 q2 q3 q4
      obtain ⟨p0, p1, p2, p3, p4, _⟩ := V1.five
      obtain ⟨q0, q1, q2, q3, q4, _⟩ := V2.five
      go_wp2_with fail
      refine (eCheck_any la2 n2 k2 g2 A2 m2 c2 _ hla2).mono ?_
      rintro e w2 ⟨rfl, b2⟩
      replace V1 := V1.under b2
      replace V2 := V2.under b2
      replace bb := bb.trans (b2.mono bb.size)
      rw [r2]
      clear p0 p1 p2 p3 p4 q0 q1 q2 q3 q4
      obtain ⟨p0, p1, p2, p3, p4, _⟩ := V1.five
      obtain ⟨q0, q1, q2, q3, q4, _⟩ := V2.five
      go_wp2
      go_ret
      exact ⟨rfl, bb⟩
    · have x1 := xchk_all r1
      have x2 := xchk_all r2
      have hw : wrap64 (la1 + n1) = la1 + n1 := by unfold wrap64; omega
      have hj : xjF la1 n1 k1 g1 m1 la2 n2 k2 g2 m2 = decide (la1 + n1 = la2 ∧ k1 = k2 ∧ g1 = g2) := by simp [xjF, r1, r2]
      clear x1 x2
      by_cases y1 : la2 = la1 + n1
      · have z1 : (la2 == (la1 + n1)) = true := by simp [y1]
        by_cases y2 : k2 = k1
        · have z2 : (k2 == k1) = true := by simp [y2]
          by_cases y3 : g2 = g1
          · have z3 : (g2 == g1) = true := by simp [y3]
            have hr : xjF la1 n1 k1 g1 m1 la2 n2 k2 g2 m2 = true := by rw [hj]; simp; omega
            clear hj y1 y2 y3
            rw [hr]
            go_enter Try.func61, Try.ntmps61
            obtain ⟨p0, p1, p2, p3, p4, _⟩ := V1.five
            obtain ⟨q0, q1, q2, q3, q4, _⟩ := V2.five
            go_wp2_with fail
            refine (eCheck_any la1 n1 k1 g1 A1 m1 c1 _ hla1).mono ?_
            rintro e w1 ⟨rfl, b1⟩
            replace V1 := V1.under b1
            replace V2 := V2.under b1
            replace bb := bb.trans (b1.mono bb.size)
            rw [r1]
            clear p0 p1 p2 p3 p4 q0 q1 q2 q3 q4
            obtain ⟨p0, p1, p2, p3, p4, _⟩ := V1.five
            obtain ⟨q0, q1, q2, q3, q4, _⟩ := V2.five
            go_wp2_with fail
            refine (eCheck_any la2 n2 k2 g2 A2 m2 c2 _ hla2).mono ?_
            rintro e w2 ⟨rfl, b2⟩
            replace V1 := V1.under b2
            replace V2 := V2.under b2
            replace bb := bb.trans (b2.mono bb.size)
            rw [r2]
            clear p0 p1 p2 p3 p4 q0 q1 q2 q3 q4
            obtain ⟨p0, p1, p2, p3, p4, _⟩ := V1.five
            obtain ⟨q0, q1, q2, q3, q4, _⟩ := V2.five
            go_wp2
            go_ret
            exact ⟨rfl, bb⟩
          · have z3 : (g2 == g1) = false := by simp; omega
            have hr : xjF la1 n1 k1 g1 m1 la2 n2 k2 g2 m2 = false := by rw [hj]; simp; omega
            clear hj y1 y2 y3
            rw [hr]
            go_enter Try.func61, Try.ntmps61
            obtain ⟨p0, p1, p2, p3, p4, _⟩ := V1.five
            obtain ⟨q0, q1, q2, q3, q4, _⟩ := V2.five
            go_wp2_with fail
            refine (eCheck_any la1 n1 k1 g1 A1 m1 c1 _ hla1).mono ?_
            rintro e w1 ⟨rfl, b1⟩
            replace V1 := V1.under b1
            replace V2 := V2.under b1
            replace bb := bb.trans (b1.mono bb.size)
            rw [r1]
            clear p0 p1 p2 p3 p4 q0 q1 q2 q3 q4
            obtain ⟨p0, p1, p2, p3, p4, _⟩ := V1.five
            obtain ⟨q0, q1, q2, q3, q4, _⟩ := V2.five
            go_wp2_with fail
            refine (eCheck_any la2 n2 k2 g2 A2 m2 c2 _ hla2).mono ?_
            rintro e w2 ⟨rfl, b2⟩
            replace V1 := V1.under b2
            replace V2 := V2.under b2
            replace bb := bb.trans (b2.mono bb.size)
            rw [r2]
            clear p0 p1 p2 p3 p4 q0 q1 q2 q3 q4
            obtain ⟨p0, p1, p2, p3, p4, _⟩ := V1.five
            obtain ⟨q0, q1, q2, q3, q4, _⟩ := V2.five
            go_wp2
            go_ret
            exact ⟨rfl, bb⟩
        · have z2 : (k2 == k1) = false := by simp; omega
          have hr : xjF la1 n1 k1 g1 m1 la2 n2 k2 g2 m2 = false := by rw [hj]; simp; omega
          clear hj y1 y2
          rw [hr]
          go_enter Try.func61, Try.ntmps61
          obtain ⟨p0, p1, p2, p3, p4, _⟩ := V1.five
          obtain ⟨q0, q1, q2, q3, q4, _⟩ := V2.five
          go_wp2_with fail
          refine (eCheck_any la1 n1 k1 g1 A1 m1 c1 _ hla1).mono ?_
          rintro e w1 ⟨rfl, b1⟩
          replace V1 := V1.under b1
          replace V2 := V2.under b1
          replace bb := bb.trans (b1.mono bb.size)
          rw [r1]
          clear p0 p1 p2 p3 p4 q0 q1 q2 q3 q4
          obtain ⟨p0, p1, p2, p3, p4, _⟩ := V1.five
          obtain ⟨q0, q1, q2, q3, q4, _⟩ := V2.five
          go_wp2_with fail
          refine (eCheck_any la2 n2 k2 g2 A2 m2 c2 _ hla2).mono ?_
          rintro e w2 ⟨rfl, b2⟩
          replace V1 := V1.under b2
          replace V2 := V2.under b2
          replace bb := bb.trans (b2.mono bb.size)
          rw [r2]
          clear p0 p1 p2 p3 p4 q0 q1 q2 q3 q4
          obtain ⟨p0, p1, p2, p3, p4, _⟩ := V1.five
          obtain ⟨q0, q1, q2, q3, q4, _⟩ := V2.five
          go_wp2
          go_ret
          exact ⟨rfl, bb⟩
      · have z1 : (la2 == (la1 + n1)) = false := by simp; omega
        have hr : xjF la1 n1 k1 g1 m1 la2 n2 k2 g2 m2 = false := by rw [hj]; simp; omega
        clear hj y1
        rw [hr]
        go_enter Try.func61, Try.ntmps61
        obtain ⟨p0, p1, p2, p3, p4, _⟩ := V1.five
        obtain ⟨q0, q1, q2, q3, q4, _⟩ := V2.five
        go_wp2_with fail
        refine (eCheck_any la1 n1 k1 g1 A1 m1 c1 _ hla1).mono ?_
        rintro e w1 ⟨rfl, b1⟩
        replace V1 := V1.under b1
        replace V2 := V2.under b1
        replace bb := bb.trans (b1.mono bb.size)
        rw [r1]
        clear p0 p1 p2 p3 p4 q0 q1 q2 q3 q4
        obtain ⟨p0, p1, p2, p3, p4, _⟩ := V1.five
        obtain ⟨q0, q1, q2, q3, q4, _⟩ := V2.five
        go_wp2_with fail
        refine (eCheck_any la2 n2 k2 g2 A2 m2 c2 _ hla2).mono ?_
        rintro e w2 ⟨rfl, b2⟩
        replace V1 := V1.under b2
        replace V2 := V2.under b2
        replace bb := bb.trans (b2.mono bb.size)
        rw [r2]
        clear p0 p1 p2 p3 p4 q0 q1 q2 q3 q4
        obtain ⟨p0, p1, p2, p3, p4, _⟩ := V1.five
        obtain ⟨q0, q1, q2, q3, q4, _⟩ := V2.five
        go_wp2
        go_ret
        exact ⟨rfl, bb⟩

set_option maxHeartbeats 1000000 in
theorem fJoins_any (la1 n1 k1 g1 : Int) (A1 : Option Addr) (m1 c1 : Nat) (la2 n2 k2 g2 : Int) (A2 : Option Addr) (m2 c2 : Nat) (w : World) :
    Calls Try.prog 92 #[.agg #[.int .i64 la1, .int .i64 n1, .int .i64 k1, .int .i64 g1, .slice A1 m1 c1], .agg #[.int .i64 la2, .int .i64 n2, .int .i64 k2, .int .i64 g2, .slice A2 m2 c2]] w fun e w' => e = .returned (.bool (xjF la1 n1 k1 g1 m1 la2 n2 k2 g2 m2)) ∧ Below w.heap.size w w' := by
  have V1 := (Blk.new w #[.int .i64 la1, .int .i64 n1, .int .i64 k1, .int .i64 g1, .slice A1 m1 c1] 38).alloc (.cells #[.int .i64 la2, .int .i64 n2, .int .i64 k2, .int .i64 g2, .slice A2 m2 c2] 38)
  have V2 := Blk.new (w.alloc (.cells #[.int .i64 la1, .int .i64 n1, .int .i64 k1, .int .i64 g1, .slice A1 m1 c1] 38)) #[.int .i64 la2, .int .i64 n2, .int .i64 k2, .int .i64 g2, .slice A2 m2 c2] 38
  have bb := ((Below.refl w.heap.size w).alloc (Nat.le_refl _) (.cells #[.int .i64 la1, .int .i64 n1, .int .i64 k1, .int .i64 g1, .slice A1 m1 c1] 38)).alloc (by simp) (.cells #[.int .i64 la2, .int .i64 n2, .int .i64 k2, .int .i64 g2, .slice A2 m2 c2] 38)
  simp only [World.size_alloc] at V2
  cases r1 : xchk la1 n1 k1 g1 m1
  · have hr : xjF la1 n1 k1 g1 m1 la2 n2 k2 g2 m2 = false := by simp [xjF, r1]
    rw [hr]
    go_enter Try.func92, Try.ntmps92
    obtain ⟨p0, p1, p2, p3, p4, _⟩ := V1.five
    obtain ⟨q0, q1, q2, q3, q4, _⟩ := V2.five
    go_wp2_with fail
    refine (fCheck_any la1 n1 k1 g1 A1 m1 c1 _).mono ?_
    rintro e w1 ⟨rfl, b1⟩
    replace V1 := V1.under b1
    replace V2 := V2.under b1
    replace bb := bb.trans (b1.mono bb.size)
    rw [r1]
    clear p0 p1 p2 p3 p4 q0 q1 q2 q3 q4
    obtain ⟨p0, p1, p2, p3, p4, _⟩ := V1.five
    obtain ⟨q0, q1, q2, q3, q4, _⟩ := V2.five
    go_wp2_with fail
    refine (fCheck_any la2 n2 k2 g2 A2 m2 c2 _).mono ?_
    rintro e w2 ⟨rfl, b2⟩
    replace V1 := V1.under b2
    replace V2 := V2.under b2
    replace bb := bb.trans (b2.mono bb.size)
    rw [show xchk la2 n2 k2 g2 m2 = xchk la2 n2 k2 g2 m2 from rfl]
    clear p0 p1 p2 p3 p4 q0 q1 q2 q3 q4
    generalize xchk la2 n2 k2 g2 m2 = r2
    obtain ⟨p0, p1, p2, p3, p4, _⟩ := V1.five
    obtain ⟨q0, q1, q2, q3, q4, _⟩ := V2.five
    go_wp2
    go_ret
    exact ⟨rfl, bb⟩
  · cases r2 : xchk la2 n2 k2 g2 m2
    · have hr : xjF la1 n1 k1 g1 m1 la2 n2 k2 g2 m2 = false := by simp [xjF, r2]
      rw [hr]
      go_enter Try.func92, Try.ntmps92
      obtain ⟨p0, p1, p2, p3, p4, _⟩ := V1.five
      obtain ⟨q0, q1, q2, q3, q4, _⟩ := V2.five
      go_wp2_with fail
      refine (fCheck_any la1 n1 k1 g1 A1 m1 c1 _).mono ?_
      rintro e w1 ⟨rfl, b1⟩
      replace V1 := V1.under b1
      replace V2 := V2.under b1
      replace bb := bb.trans (b1.mono bb.size)
      rw [r1]
      clear p0 p1 p2 p3 p4 q0 q1 q2 q3 q4
      obtain ⟨p0, p1, p2, p3, p4, _⟩ := V1.five
      obtain ⟨q0, q1, q2, q3, q4, _⟩ := V2.five
      go_wp2_with fail
      refine (fCheck_any la2 n2 k2 g2 A2 m2 c2 _).mono ?_
      rintro e w2 ⟨rfl, b2⟩
      replace V1 := V1.under b2
      replace V2 := V2.under b2
      replace bb := bb.trans (b2.mono bb.size)
      rw [r2]
      clear p0 p1 p2 p3 p4 q0 q1 q2 q3 q4
      obtain ⟨p0, p1, p2, p3, p4, _⟩ := V1.five
      obtain ⟨q0, q1, q2, q3, q4, _⟩ := V2.five
      go_wp2
      go_ret
      exact ⟨rfl, bb⟩
    · have x1 := xchk_all r1
      have x2 := xchk_all r2
      have hw : wrap64 (la1 + n1) = la1 + n1 := by unfold wrap64; omega
      have hj : xjF la1 n1 k1 g1 m1 la2 n2 k2 g2 m2 = decide (la1 + n1 = la2 ∧ k1 = k2 ∧ g1 = g2) := by simp [xjF, r1, r2]
      clear x1 x2
      by_cases y1 : la2 = la1 + n1
      · have z1 : ((la1 + n1) == la2) = true := by simp [y1]
        by_cases y2 : k2 = k1
        · have z2 : (k1 == k2) = true := by simp [y2]
          by_cases y3 : g2 = g1
          · have z3 : (g1 == g2) = true := by simp [y3]
            have hr : xjF la1 n1 k1 g1 m1 la2 n2 k2 g2 m2 = true := by rw [hj]; simp; omega
            clear hj y1 y2 y3
            rw [hr]
            go_enter Try.func92, Try.ntmps92
            obtain ⟨p0, p1, p2, p3, p4, _⟩ := V1.five
            obtain ⟨q0, q1, q2, q3, q4, _⟩ := V2.five
            go_wp2_with fail
            refine (fCheck_any la1 n1 k1 g1 A1 m1 c1 _).mono ?_
            rintro e w1 ⟨rfl, b1⟩
            replace V1 := V1.under b1
            replace V2 := V2.under b1
            replace bb := bb.trans (b1.mono bb.size)
            rw [r1]
            clear p0 p1 p2 p3 p4 q0 q1 q2 q3 q4
            obtain ⟨p0, p1, p2, p3, p4, _⟩ := V1.five
            obtain ⟨q0, q1, q2, q3, q4, _⟩ := V2.five
            go_wp2_with fail
            refine (fCheck_any la2 n2 k2 g2 A2 m2 c2 _).mono ?_
            rintro e w2 ⟨rfl, b2⟩
            replace V1 := V1.under b2
            replace V2 := V2.under b2
            replace bb := bb.trans (b2.mono bb.size)
            rw [r2]
            clear p0 p1 p2 p3 p4 q0 q1 q2 q3 q4
            obtain ⟨p0, p1, p2, p3, p4, _⟩ := V1.five
            obtain ⟨q0, q1, q2, q3, q4, _⟩ := V2.five
            go_wp2
            go_ret
            exact ⟨rfl, bb⟩
          · have z3 : (g1 == g2) = false := by simp; omega
            have hr : xjF la1 n1 k1 g1 m1 la2 n2 k2 g2 m2 = false := by rw [hj]; simp; omega
            clear hj y1 y2 y3
            rw [hr]
            go_enter Try.func92, Try.ntmps92
            obtain ⟨p0, p1, p2, p3, p4, _⟩ := V1.five
            obtain ⟨q0, q1, q2, q3, q4, _⟩ := V2.five
            go_wp2_with fail
            refine (fCheck_any la1 n1 k1 g1 A1 m1 c1 _).mono ?_
            rintro e w1 ⟨rfl, b1⟩
            replace V1 := V1.under b1
            replace V2 := V2.under b1
            replace bb := bb.trans (b1.mono bb.size)
            rw [r1]
            clear p0 p1 p2 p3 p4 q0 q1 q2 q3 q4
            obtain ⟨p0, p1, p2, p3, p4, _⟩ := V1.five
            obtain ⟨q0, q1, q2, q3, q4, _⟩ := V2.five
            go_wp2_with fail
            refine (fCheck_any la2 n2 k2 g2 A2 m2 c2 _).mono ?_
            rintro e w2 ⟨rfl, b2⟩
            replace V1 := V1.under b2
            replace V2 := V2.under b2
            replace bb := bb.trans (b2.mono bb.size)
            rw [r2]
            clear p0 p1 p2 p3 p4 q0 q1 q2 q3 q4
            obtain ⟨p0, p1, p2, p3, p4, _⟩ := V1.five
            obtain ⟨q0, q1, q2, q3, q4, _⟩ := V2.five
            go_wp2
            go_ret
            exact ⟨rfl, bb⟩
        · have z2 : (k1 == k2) = false := by simp; omega
          have hr : xjF la1 n1 k1 g1 m1 la2 n2 k2 g2 m2 = false := by rw [hj]; simp; omega
          clear hj y1 y2
          rw [hr]
          go_enter Try.func92, Try.ntmps92
          obtain ⟨p0, p1, p2, p3, p4, _⟩ := V1.five
          obtain ⟨q0, q1, q2, q3, q4, _⟩ := V2.five
          go_wp2_with fail
          refine (fCheck_any la1 n1 k1 g1 A1 m1 c1 _).mono ?_
          rintro e w1 ⟨rfl, b1⟩
          replace V1 := V1.under b1
          replace V2 := V2.under b1
          replace bb := bb.trans (b1.mono bb.size)
          rw [r1]
          clear p0 p1 p2 p3 p4 q0 q1 q2 q3 q4
          obtain ⟨p0, p1, p2, p3, p4, _⟩ := V1.five
          obtain ⟨q0, q1, q2, q3, q4, _⟩ := V2.five
          go_wp2_with fail
          refine (fCheck_any la2 n2 k2 g2 A2 m2 c2 _).mono ?_
          rintro e w2 ⟨rfl, b2⟩
          replace V1 := V1.under b2
          replace V2 := V2.under b2
          replace bb := bb.trans (b2.mono bb.size)
          rw [r2]
          clear p0 p1 p2 p3 p4 q0 q1 q2 q3 q4
          obtain ⟨p0, p1, p2, p3, p4, _⟩ := V1.five
          obtain ⟨q0, q1, q2, q3, q4, _⟩ := V2.five
          go_wp2
          go_ret
          exact ⟨rfl, bb⟩
      · have z1 : ((la1 + n1) == la2) = false := by simp; omega
        have hr : xjF la1 n1 k1 g1 m1 la2 n2 k2 g2 m2 = false := by rw [hj]; simp; omega
        clear hj y1
        rw [hr]
        go_enter Try.func92, Try.ntmps92
        obtain ⟨p0, p1, p2, p3, p4, _⟩ := V1.five
        obtain ⟨q0, q1, q2, q3, q4, _⟩ := V2.five
        go_wp2_with fail
        refine (fCheck_any la1 n1 k1 g1 A1 m1 c1 _).mono ?_
        rintro e w1 ⟨rfl, b1⟩
        replace V1 := V1.under b1
        replace V2 := V2.under b1
        replace bb := bb.trans (b1.mono bb.size)
        rw [r1]
        clear p0 p1 p2 p3 p4 q0 q1 q2 q3 q4
        obtain ⟨p0, p1, p2, p3, p4, _⟩ := V1.five
        obtain ⟨q0, q1, q2, q3, q4, _⟩ := V2.five
        go_wp2_with fail
        refine (fCheck_any la2 n2 k2 g2 A2 m2 c2 _).mono ?_
        rintro e w2 ⟨rfl, b2⟩
        replace V1 := V1.under b2
        replace V2 := V2.under b2
        replace bb := bb.trans (b2.mono bb.size)
        rw [r2]
        clear p0 p1 p2 p3 p4 q0 q1 q2 q3 q4
        obtain ⟨p0, p1, p2, p3, p4, _⟩ := V1.five
        obtain ⟨q0, q1, q2, q3, q4, _⟩ := V2.five
        go_wp2
        go_ret
        exact ⟨rfl, bb⟩
end Go.Proofs.Ytepaojegcaapfaa
