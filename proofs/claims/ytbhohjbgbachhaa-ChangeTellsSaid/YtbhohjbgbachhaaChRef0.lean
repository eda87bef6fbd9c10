/-
  Contracts of the document's List and Check of changes (written by gen_chref1.py).
-/
import Derived.Test.YtbhohjbgbachhaaCh2
import Derived.Test.YtbhohjbgbachhaaRef7a
import Derived.Deep.Cut
import Derived.Deep.CutRange
namespace Go.Proofs.Ytbhohjbgbachhaa
open Go.RowKit Go.Wag
set_option linter.unusedVariables false
set_option linter.unusedSimpArgs false
set_option maxRecDepth 20000
set_option maxHeartbeats 2000000 in
theorem gList_any {F : Nat → Prop} (xs : List Xp) (Al : Option Addr) (ml cl : Nat) (w : World) (h : Rs extE F w Al ml cl xs) (hla : ∀ x ∈ xs, x.la ≤ 9223372036854775807) :
    Calls Try.prog 59 #[.slice Al ml cl] w fun e w' => e = .returned (.bool (clist 0 xs)) ∧ Below w.heap.size w w' := by
  have HN : Hid (xs.length = ml) := h.len
  have hcap := h.cap
  have hbig := h.big
  replace hla := Lib.hid hla
  by_cases h64 : (ml : Int) > 64
  · have hf : clist 0 xs = false := by
      cases hx : clist 0 xs
      · rfl
      · have := clist_all xs 0 hx (by omega)
        have := HN.out
        omega
    rw [hf]
    go_enter Try.func59, Try.ntmps59
    go_wp2_with fail
    go_ret
    exact ⟨rfl, Below.refl _ _⟩
  go_enter Try.func59, Try.ntmps59
  go_wp2_with fail
  go_loopg [3, 4] ml (fun g a j wr => ∃ (q : Nat) (z : Int), q + g = ml ∧ a = .int .i64 z ∧ 0 ≤ z ∧ z ≤ 64 ∧ j = .int .i64 (q : Int) ∧ Hid (clist 0 xs = clist z (xs.drop q)) ∧ Below w.heap.size w wr)
  case atStart => exact ⟨0, 0, by omega, rfl, by omega, by omega, rfl, rfl, Below.refl _ _⟩
  case round =>
    obtain ⟨q, z, hq, rfl, hz0, hz1, rfl, hx, bb⟩ := hrel
    by_cases hlt : (q : Int) < (ml : Int)
    · obtain ⟨g, rfl⟩ : ∃ g, gk = g + 1 := ⟨gk - 1, by omega⟩
      obtain ⟨gb, o, x, Ai, ci, rfl, _, hg, hz, c0, c1, c2, c3, c4, hS, _⟩ := (h.below bb).ext_at (show q < ml by omega)
      have hd := Lib.hid (clist_drop (a := z) hz)
      have hxla : x.la ≤ 9223372036854775807 := hla.out x (List.mem_of_getElem? hz)
      clear hz
      go_wp2_with fail
      refine (fCheck_any x.la x.n x.k x.g Ai x.l.length ci _).mono ?_
      rintro e w2 ⟨rfl, b2⟩
      replace bb := bb.trans (b2.mono bb.size)
      replace c0 := (b2.cell (p := ⟨gb, o + q * 5, none⟩) hg).trans c0
      replace c1 := (b2.cell (p := ⟨gb, o + q * 5 + 1, none⟩) hg).trans c1
      clear b2 c2 c3 c4
      cases r1 : xchk x.la x.n x.k x.g x.l.length
      · have hf : clist 0 xs = false := by
          rw [hx.out, hd.out, show x.ok = false from r1]
          rfl
        replace hf := Lib.hid hf
        go_wp2
        go_ret
        exact ⟨ret_bool hf.out.symm, bb⟩
      · obtain ⟨a1, a2, a3, a4, a5, a6, a7, a8, a9⟩ := xchk_all r1
        by_cases hlz : x.la < z
        · have hf : clist 0 xs = false := by
            rw [hx.out, hd.out, decide_eq_false (by omega), Bool.false_and, Bool.and_false]
          replace hf := Lib.hid hf
          go_wp2
          go_ret
          exact ⟨ret_bool hf.out.symm, bb⟩
        · have hf : clist 0 xs = clist (x.la + x.n) (xs.drop (q + 1)) := by
            rw [hx.out, hd.out, show x.ok = true from r1, decide_eq_true (by omega), Bool.true_and, Bool.true_and]
          replace hf := Lib.hid hf
          have hws : wrap64 (x.la + x.n) = x.la + x.n := by unfold wrap64; omega
          go_wp2_with fail
          go_quiet (fail)
          go_wp2
          go_roundg g
          case measure => omega
          case rel => exact ⟨q + 1, x.la + x.n, by omega, by first | rfl | (simp; done) | (simp; omega), by omega, by omega, by first | rfl | (simp; done) | (simp; exact wrap64_small (by omega) (by omega)), hf, drewN_below bb _⟩
    · have hf : clist 0 xs = true := by
        rw [hx.out, List.drop_eq_nil_of_le (by rw [HN.out]; omega)]
        rfl
      replace hf := Lib.hid hf
      go_wp2
      go_ret
      exact ⟨ret_bool hf.out.symm, bb⟩
end Go.Proofs.Ytbhohjbgbachhaa
