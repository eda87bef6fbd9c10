/-
  The document's Seal and Open; the walk of CrcTells.
-/
import Derived.Test.YtjhpjhgofmlecaaDoorCrcRefJoin
import Derived.Test.YtjhpjhgofmlecaaDoorDrawn
namespace Go.Proofs.YtjhpjhgofmlecaaDoor
open Go.RowKit Go.Wag
set_option linter.unusedVariables false

theorem refSum_any (A : Option Addr) (n c : Nat) (l : List UInt8) (w : World) (h : Sl w A n c (l.map v8)) :
    Calls Tryd.prog 39 #[.int .u32 0, .slice A n c] w fun e w' => e = .returned (.int .u32 ((moreF 0#32 l).toNat : Int)) ∧ w = w' := refMore_any 0#32 A n c l w h

set_option maxHeartbeats 400000 in
theorem refSeal_any (A : Option Addr) (n c : Nat) (l : List UInt8) (w : World) (h : Sl w A n c (l.map v8)) (hn : n ≤ 10000000000000) :
    Calls Tryd.prog 26 #[.slice A n c] w (BytesNew w (sealF l)) := by
  obtain ⟨x, hx⟩ : ∃ x, Aside (x = moreF 0#32 l) := ⟨_, rfl⟩
  have hc := conv64 x
  go_enter Tryd.func26, Tryd.ntmps26
  go_wp2_with fail
  refine (refSum_any A n c l w h).mono ?_
  rintro e w1 ⟨rfl, rfl⟩
  rw [← hx.out]
  go_wp2_with fail
  refine (BytesErr.ok (refPut_any A n c l (x.toNat : Int) 4 w h hn (by omega) (by have := w32i x; omega)) (seal_put l x hx.out)).mono ?_
  rintro e w2 ⟨A2, n2, c2, rfl, s2, f2, b2⟩
  go_wp2
  go_ret
  exact ⟨A2, n2, c2, rfl, s2, f2, b2⟩

theorem openF_eq {l : List UInt8} (h4 : 4 ≤ l.length) : openF l = if sealF (l.take (l.length - 4)) = l then some (l.take (l.length - 4)) else none := by
  unfold openF
  by_cases h : sealF (l.take (l.length - 4)) = l
  · rw [if_pos ⟨h4, h⟩, if_pos h]
  · rw [if_neg (fun e => h e.2), if_neg h]

theorem refMore_num (s : W32) (sv : Int) (hs : (s.toNat : Int) = sv) (A : Option Addr) (n c : Nat) (l : List UInt8) (v : Int) (hv : ((moreF s l).toNat : Int) = v) (w : World) (h : Sl w A n c (l.map v8)) :
    Calls Tryd.prog 39 #[.int .u32 sv, .slice A n c] w fun e w' => e = .returned (.int .u32 v) ∧ w = w' := by
  subst hv hs
  exact refMore_any s A n c l w h
end Go.Proofs.YtjhpjhgofmlecaaDoor
