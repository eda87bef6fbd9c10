/-
  Arguments that are changes (a struct of six fields); contracts of Few and record.Size.
-/
import Derived.Test.YtbhohjbgbachhaaDevArgs
import Derived.Test.YtbhohjbgbachhaaChAwake
import Derived.Test.YtbhohjbgbachhaaExtFew
import Derived.Test.YtbhohjbgbachhaaArgs
namespace Go.Wag
open Go.RowKit Go.ChangeShapes Go.WideShapes Go.Deep
set_option linter.unusedVariables false
set_option maxRecDepth 20000
theorem array6 {cs : Array Value} (h : cs.size = 6) : ∃ a b c d e f, cs = #[a, b, c, d, e, f] := by
  obtain ⟨l⟩ := cs
  match l, h with
  | [a, b, c, d, e, f], _ => exact ⟨a, b, c, d, e, f, rfl⟩
section
variable {H : Type} {enc : TypeId × Value → H} {P : Program} {w : World} {base : Nat} {held : Bool}
theorem open_agg6 {r : Reach} {b0 : Nat} {t : TypeId} {f0 f1 f2 f3 f4 f5 : Field} {v : Value} {d : DataW H} {p : List MemPlace} {spare : Nat → Bool} (hs : P.underlying t = some (.struct #[f0, f1, f2, f3, f4, f5])) (hone : oneCellFields P #[f0, f1, f2, f3, f4, f5] = true) (hC : P.cellsOf t = 6)
    (hv : Value.okWide P w r b0 t v) (h : DataW.Trod enc P w base spare held t v d p) :
    ∃ (v0 v1 v2 v3 v4 v5 : Value) (y0 y1 y2 y3 y4 y5 : DataW H × List MemPlace) (n : Nat), v = .agg #[v0, v1, v2, v3, v4, v5] ∧ True ∧ True ∧
      DataW.trod enc P w base spare held n f0.type [v0] = some y0 ∧ DataW.trod enc P w base spare held n f1.type [v1] = some y1 ∧ DataW.trod enc P w base spare held n f2.type [v2] = some y2 ∧ DataW.trod enc P w base spare held n f3.type [v3] = some y3 ∧ DataW.trod enc P w base spare held n f4.type [v4] = some y4 ∧ DataW.trod enc P w base spare held n f5.type [v5] = some y5 := by
  obtain ⟨cs, rfl, hsz⟩ := okWide_struct hs hv
  obtain ⟨c0, c1, c2, c3, c4, c5, rfl⟩ := array6 (hsz.trans hC)
  obtain ⟨fuel, hf⟩ := h
  obtain ⟨xs, n, _, _, _, hl, hi⟩ := DataW.trod_struct hs hf
  have hl5 : xs.length = 6 := hl
  have hx : ∀ i (hi : i < 6), xs[i]? = some (xs[i]'(by omega)) := fun i hi => List.getElem?_eq_getElem (by omega)
  obtain ⟨o0, k0⟩ := hone_of hone 0 f0 rfl
  obtain ⟨o1, k1⟩ := hone_of hone 1 f1 rfl
  obtain ⟨o2, k2⟩ := hone_of hone 2 f2 rfl
  obtain ⟨o3, k3⟩ := hone_of hone 3 f3 rfl
  obtain ⟨o4, k4⟩ := hone_of hone 4 f4 rfl
  obtain ⟨o5, k5⟩ := hone_of hone 5 f5 rfl
  have g0 := (hi 0 f0 rfl).trans (hx 0 (by omega))
  have g1 := (hi 1 f1 rfl).trans (hx 1 (by omega))
  have g2 := (hi 2 f2 rfl).trans (hx 2 (by omega))
  have g3 := (hi 3 f3 rfl).trans (hx 3 (by omega))
  have g4 := (hi 4 f4 rfl).trans (hx 4 (by omega))
  have g5 := (hi 5 f5 rfl).trans (hx 5 (by omega))
  rw [o0, k0] at g0
  rw [o1, k1] at g1
  rw [o2, k2] at g2
  rw [o3, k3] at g3
  rw [o4, k4] at g4
  rw [o5, k5] at g5
  exact ⟨c0, c1, c2, c3, c4, c5, _, _, _, _, _, _, n, rfl, trivial, trivial, g0, g1, g2, g3, g4, g5⟩
end
end Go.Wag
namespace Go.Proofs.Ytbhohjbgbachhaa
open Go.RowKit Go.Wag
set_option linter.unusedVariables false
set_option linter.unusedSimpArgs false
set_option maxRecDepth 20000
/-- What Few answers. -/
def Few10 (md : Nat) (w : World) (e : Ending) (w' : World) : Prop := ∃ r, e = .returned (.bool r) ∧ (r = true → md ≤ 5000) ∧ Below w.heap.size w w'
theorem few10_any {F : Nat → Prop} (k la n i : Int) (Ad : Option Addr) (md cd : Nat) (Al : Option Addr) (ml cl : Nat) (xs : List Xp) (w : World) (h : Rs extE F w Al ml cl xs) :
    Calls Try.prog 23 #[.agg #[.int .i64 k, .int .i64 la, .int .i64 n, .int .i64 i, .slice Ad md cd, .slice Al ml cl]] w (Few10 md w) := by
  have hcap := h.cap
  have hbig := h.big
  by_cases h5 : (md : Int) ≤ 5000
  · have X := Blk.new w #[.int .i64 k, .int .i64 la, .int .i64 n, .int .i64 i, .slice Ad md cd, .slice Al ml cl] 37
    have bb := (Below.refl w.heap.size w).alloc (Nat.le_refl _) (.cells #[.int .i64 k, .int .i64 la, .int .i64 n, .int .i64 i, .slice Ad md cd, .slice Al ml cl] 37)
    have h' := h.alloc (.cells #[.int .i64 k, .int .i64 la, .int .i64 n, .int .i64 i, .slice Ad md cd, .slice Al ml cl] 37)
    obtain ⟨x0, x1, x2, x3, x4, x5, _⟩ := X.six
    go_enter Try.func23, Try.ntmps23
    go_wp2_with fail
    refine (few_any xs Al ml cl _ h').mono ?_
    rintro e w2 ⟨r, rfl, _, rfl⟩
    go_wp2
    go_ret
    exact ⟨r, rfl, fun _ => by omega, bb⟩
  · go_enter Try.func23, Try.ntmps23
    go_wp2
    go_ret
    exact ⟨false, rfl, (fun h => nomatch h), (Below.refl _ _).alloc (Nat.le_refl _) _⟩
def chRszF (n : Int) : Int := if 0 ≤ n ∧ n ≤ 4096 then n + 20 else 0
theorem chRsz_any (n : Int) (w : World) : Calls Try.prog 31 #[.int .i64 n] w fun e w' => e = .returned (.int .i64 (chRszF n)) ∧ w = w' := by
  by_cases h : 0 ≤ n ∧ n ≤ 4096
  · have e1 : wrap64 (16 + n) = 16 + n := by unfold wrap64; omega
    have e2 : wrap64 (16 + n + 4) = 16 + n + 4 := by unfold wrap64; omega
    go_enter Try.func31, Try.ntmps31
    go_wp2
    all_goals
      go_ret
      exact ⟨ret_int (by rw [chRszF, if_pos h]; omega), rfl⟩
  · rw [chRszF, if_neg h]
    go_enter Try.func31, Try.ntmps31
    go_wp2
    all_goals
      go_ret
      go_tidy
      exact ⟨ret_int (by first | rfl | omega), rfl⟩
end Go.Proofs.Ytbhohjbgbachhaa
