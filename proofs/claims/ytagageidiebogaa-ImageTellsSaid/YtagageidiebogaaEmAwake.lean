/-
  The calls at every statement's head of stage 8 answer as the document says (written by gen_emawake.py).
-/
import Derived.Test.YtagageidiebogaaEm8
import Derived.Test.YtagageidiebogaaEm3
import Derived.Test.YtagageidiebogaaExtFew
namespace Go.Wag
open Go.RowKit
set_option linter.unusedVariables false
def five (x : Xp) : List Value := [.int .i64 x.la, .int .i64 x.n, .int .i64 x.k, .int .i64 x.g, .slice none 0 0]
def fives (xs : List Xp) : List Value := xs.flatMap five
theorem fives_at : ∀ (xs : List Xp) (i : Nat) (x : Xp), xs[i]? = some x → ∀ (j : Nat) (v : Value), (five x)[j]? = some v → (fives xs)[i * 5 + j]? = some v
  | [], i, x, h, j, v, hj => by simp at h
  | y :: xs, 0, x, h, j, v, hj => by
    cases h
    have hl := (List.getElem?_eq_some_iff.1 hj).1
    show (five y ++ fives xs)[0 * 5 + j]? = some v
    rw [Nat.zero_mul, Nat.zero_add, List.getElem?_append_left hl]
    exact hj
  | y :: xs, i + 1, x, h, j, v, hj => by
    have h5 : (five y).length = 5 := rfl
    show (five y ++ fives xs)[(i + 1) * 5 + j]? = some v
    rw [List.getElem?_append_right (by omega), h5, show (i + 1) * 5 + j - 5 = i * 5 + j by omega]
    exact fives_at xs i x h j v hj
/-- A slice of extents without data that was just laid. -/
theorem rs_lit {w : World} {g : Nat} {t : TypeId} (xs : List Xp) (n : Nat) (hn : xs.length = n) (hm : n ≤ 1000) (hx : ∀ x ∈ xs, x.l = []) (h : Blk w g (fives xs).toArray t) : Rs extE (fun _ => True) w (some ⟨g, 0, none⟩) n n xs := by
  refine ⟨hn, Nat.le_refl _, by omega, fun _ => ⟨g, 0, rfl, trivial, h.lt, fun i x hi => ?_⟩⟩
  have hl := hx x (List.mem_of_getElem? hi)
  refine ⟨five x, ⟨none, 0, by rw [hl]; rfl, by rw [hl]; exact Sl.nil _, fun h0 ad e => by cases e⟩, fun j v hj => ?_⟩
  have e5 : extE.k = 5 := rfl
  rw [h.cell, Nat.zero_add, e5, List.getElem?_toArray]
  exact fives_at xs i x hi j v hj
theorem hole_la (a b k g : Int) (ha : a ≤ 9223372036854775807) : ∀ x ∈ [(⟨a, b, k, g, []⟩ : Xp)], x.la ≤ 9223372036854775807 := fun x hx => by rw [List.mem_singleton.1 hx]; exact ha
theorem map_la {b : Int} {l : List Xp} (h : mapB b l = true) : ∀ x ∈ l, x.la ≤ 9223372036854775807 := fun x hx => by
  have := Xp.all (mrun_ok ((mapB_iff _ _).1 h).2.2.1 x hx)
  omega
theorem aw_l : mapB 8 [⟨0, 8, 0, 0, []⟩] = true := by decide
theorem aw_m : mapB 8 [⟨0, 2, 0, 0, []⟩, ⟨2, 3, 1, 1, []⟩, ⟨5, 3, 0, 0, []⟩] = true := by decide
theorem aw_m7 : mapB 7 [⟨0, 2, 0, 0, []⟩, ⟨2, 3, 1, 1, []⟩, ⟨5, 3, 0, 0, []⟩] = false := by decide
theorem aw_n : mapB 8 [] = false := by decide
theorem aw_f1 : mfit 8 ⟨2, 3, 1, 1, []⟩ = true := by decide
theorem aw_f2 : mfit 8 ⟨6, 3, 0, 0, []⟩ = false := by decide
theorem aw_put : mput 8 [⟨0, 8, 0, 0, []⟩] ⟨2, 3, 1, 1, []⟩ = [⟨0, 2, 0, 0, []⟩, ⟨2, 3, 1, 1, []⟩, ⟨5, 3, 0, 0, []⟩] := by rfl
theorem aw_since : msince [⟨0, 2, 0, 0, []⟩, ⟨2, 3, 1, 1, []⟩, ⟨5, 3, 0, 0, []⟩] 0 = [⟨2, 3, 1, 1, []⟩] := by rfl
theorem aw_range : mparts [⟨0, 2, 0, 0, []⟩, ⟨2, 3, 1, 1, []⟩, ⟨5, 3, 0, 0, []⟩] 4 2 = [⟨4, 1, 1, 1, []⟩, ⟨5, 1, 0, 0, []⟩] := by rfl
theorem aw_lay : mlays 8 [⟨0, 2, 0, 0, []⟩, ⟨2, 3, 1, 1, []⟩, ⟨5, 3, 0, 0, []⟩] [⟨2, 3, 0, 0, []⟩] = some [⟨0, 8, 0, 0, []⟩] := by rfl
theorem aw_many : mmany [⟨0, 2, 0, 0, []⟩, ⟨2, 3, 1, 1, []⟩, ⟨5, 3, 0, 0, []⟩] 1 = 3 := by decide
end Go.Wag
namespace Go.Proofs.Ytagageidiebogaa
open Go.RowKit Go.Wag
set_option linter.unusedVariables false
set_option linter.unusedSimpArgs false
set_option maxRecDepth 20000
theorem LErr.at {P : Program} {f : FuncId} {args : Array Value} {w : World} {ys zs : List Xp} {er er' : Int} (h : Calls P f args w (LErr w ys er)) (hy : ys = zs) (he : er = er') : Calls P f args w (LErr w zs er') := by
  subst hy he
  exact h
end Go.Proofs.Ytagageidiebogaa
