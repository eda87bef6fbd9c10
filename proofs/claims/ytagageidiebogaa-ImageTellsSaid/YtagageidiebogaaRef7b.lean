/-
  Contracts of the document's Same and All of extents, and of Joins (both).
-/
import Derived.Test.YtagageidiebogaaRef7a
import Derived.Deep.LoopGhost
namespace Go.Proofs.Ytagageidiebogaa
open Go.RowKit Go.Wag
set_option linter.unusedVariables false
set_option maxRecDepth 20000

def xsame (a b : Xp) : Bool := decide (a.la = b.la ∧ a.n = b.n ∧ a.k = b.k ∧ a.g = b.g ∧ a.l = b.l)
theorem xsame_self (a : Xp) : xsame a a = true := by simp [xsame]
theorem xsame_iff {a b : Xp} : xsame a b = true ↔ a = b := by
  unfold xsame
  rw [decide_eq_true_iff]
  constructor
  · rintro ⟨h1, h2, h3, h4, h5⟩
    cases a
    cases b
    simp_all
  · rintro rfl
    exact ⟨rfl, rfl, rfl, rfl, rfl⟩
theorem xsame_no {a b : Xp} (h : a ≠ b) : xsame a b = false := by
  cases hx : xsame a b
  · rfl
  · exact absurd (xsame_iff.1 hx) h

set_option maxHeartbeats 1000000 in
theorem fSame_any (la1 n1 k1 g1 : Int) (A1 : Option Addr) (m1 c1 : Nat) (l1 : List UInt8) (la2 n2 k2 g2 : Int) (A2 : Option Addr) (m2 c2 : Nat) (l2 : List UInt8) (w : World) (h1 : Sl w A1 m1 c1 (l1.map v8)) (h2 : Sl w A2 m2 c2 (l2.map v8)) :
    Calls Try.prog 28 #[.agg #[.int .i64 la1, .int .i64 n1, .int .i64 k1, .int .i64 g1, .slice A1 m1 c1], .agg #[.int .i64 la2, .int .i64 n2, .int .i64 k2, .int .i64 g2, .slice A2 m2 c2]] w
      fun e w' => e = .returned (.bool (xsame ⟨la1, n1, k1, g1, l1⟩ ⟨la2, n2, k2, g2, l2⟩)) ∧ Below w.heap.size w w' := by
  by_cases qla : la1 = la2
  · subst qla
    by_cases qn : n1 = n2
    · subst qn
      by_cases qk : k1 = k2
      · subst qk
        by_cases qg : g1 = g2
        · subst qg
          have e1 := str_of ((h1.alloc (.cells #[.int .i64 la1, .int .i64 n1, .int .i64 k1, .int .i64 g1, .slice A1 m1 c1] 41)).alloc (.cells #[.int .i64 la1, .int .i64 n1, .int .i64 k1, .int .i64 g1, .slice A2 m2 c2] 41))
          have e2 := str_of ((h2.alloc (.cells #[.int .i64 la1, .int .i64 n1, .int .i64 k1, .int .i64 g1, .slice A1 m1 c1] 41)).alloc (.cells #[.int .i64 la1, .int .i64 n1, .int .i64 k1, .int .i64 g1, .slice A2 m2 c2] 41))
          go_enter Try.func28, Try.ntmps28
          go_wp2
          all_goals
            go_ret
            go_tidy
            refine ⟨congrArg (fun b => Ending.returned (.bool b)) (?_ : (_ : Bool) = _), ((Below.refl _ _).alloc (Nat.le_refl _) _).alloc (by simp) _⟩
            first
              | (simp_all [xsame]; done)
              | (simp_all [xsame]; rw [Bool.eq_iff_iff]; simp)
        · rw [xsame_no (fun e => qg (congrArg Xp.g e))]
          have e0 : (g1 == g2) = false := by simp [qg]
          go_enter Try.func28, Try.ntmps28
          go_wp2
          go_ret
          exact ⟨rfl, ((Below.refl _ _).alloc (Nat.le_refl _) _).alloc (by simp) _⟩
      · rw [xsame_no (fun e => qk (congrArg Xp.k e))]
        have e0 : (k1 == k2) = false := by simp [qk]
        go_enter Try.func28, Try.ntmps28
        go_wp2
        go_ret
        exact ⟨rfl, ((Below.refl _ _).alloc (Nat.le_refl _) _).alloc (by simp) _⟩
    · rw [xsame_no (fun e => qn (congrArg Xp.n e))]
      have e0 : (n1 == n2) = false := by simp [qn]
      go_enter Try.func28, Try.ntmps28
      go_wp2
      go_ret
      exact ⟨rfl, ((Below.refl _ _).alloc (Nat.le_refl _) _).alloc (by simp) _⟩
  · rw [xsame_no (fun e => qla (congrArg Xp.la e))]
    have e0 : (la1 == la2) = false := by simp [qla]
    go_enter Try.func28, Try.ntmps28
    go_wp2
    go_ret
    exact ⟨rfl, ((Below.refl _ _).alloc (Nat.le_refl _) _).alloc (by simp) _⟩
end Go.Proofs.Ytagageidiebogaa
