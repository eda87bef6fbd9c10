/-
  Contracts of package extmap: mayHave, parts, copied, New, Many.
-/
import Derived.Test.YtagageidiebogaaExtAwake
import Derived.Test.YtagageidiebogaaEmMath
import Derived.Test.YtagageidiebogaaStrs2
namespace Go.Wag
theorem take_one {α : Type} {xs : List α} {k : Nat} {x : α} (h : xs[k]? = some x) : xs.take (k + 1) = xs.take k ++ [x] := by
  obtain ⟨hk, rfl⟩ := List.getElem?_eq_some_iff.1 h
  rw [List.take_succ_eq_append_getElem hk]
theorem mparts_no {xs ys : List Xp} {k : Nat} {x : Xp} {a m : Int} (hz : xs[k]? = some x) (hys : mparts (xs.take k) a m = ys) (hc : xcut x a m = none) : mparts (xs.take (k + 1)) a m = ys := by
  rw [take_one hz, mparts_append, hys, mparts_cons, hc]
  exact List.append_nil _
theorem mparts_yes {xs ys : List Xp} {k : Nat} {x y : Xp} {a m : Int} (hz : xs[k]? = some x) (hys : mparts (xs.take k) a m = ys) (hc : xcut x a m = some y) : mparts (xs.take (k + 1)) a m = ys ++ [y] := by
  rw [take_one hz, mparts_append, hys, mparts_cons, hc]
  rfl
theorem mparts_len (xs : List Xp) (a m : Int) : (mparts xs a m).length ≤ xs.length := List.length_filterMap_le ..
theorem mparts_la {xs : List Xp} {a m : Int} : ∀ x ∈ mparts xs a m, x.la ≤ 9223372036854775807 := fun x hx => by
  obtain ⟨y, _, hc⟩ := mparts_mem hx
  have := Xp.all (xcut_ok hc)
  omega
theorem mmany_step {xs : List Xp} {k : Nat} {x : Xp} {kd v : Int} (hz : xs[k]? = some x) (h : mmany (xs.take k) kd = v) {u : Int} (hu : (if x.ok = true ∧ x.k = kd then x.n else 0) = u) : mmany (xs.take (k + 1)) kd = v + u := by
  rw [take_one hz, mmany_snoc, h, hu]
theorem mmany_bound (xs : List Xp) (k : Nat) (kd : Int) {n : Nat} (hk : k ≤ n) : 0 ≤ mmany (xs.take k) kd ∧ mmany (xs.take k) kd ≤ 64 * n := by
  have h1 := mmany_le (xs.take k) kd
  have h2 : (xs.take k).length ≤ k := by rw [List.length_take]; omega
  omega
end Go.Wag
namespace Go.Proofs.Ytagageidiebogaa
open Go.RowKit Go.Wag
set_option linter.unusedVariables false
set_option linter.unusedSimpArgs false
set_option maxRecDepth 20000
/-- Extents in memory of their own. -/
def LPost (w : World) (ys : List Xp) (e : Ending) (w' : World) : Prop := ∃ A n c, Hid (ys.length = n) ∧ e = .returned (.slice A n c) ∧ Rq extE (fun x => w.heap.size ≤ x) w.heap.size 41 w' A n c ys ∧ Below w.heap.size w w'
/-- The same, and a number. -/
def LErr (w : World) (ys : List Xp) (er : Int) (e : Ending) (w' : World) : Prop := ∃ A n c, Hid (ys.length = n) ∧ e = .returned (.tuple #[.slice A n c, .int .i64 er]) ∧ Rs extE (fun x => w.heap.size ≤ x) w' A n c ys ∧ Below w.heap.size w w'
theorem LErr.nil {w w' : World} (er : Int) (hb : Below w.heap.size w w') : LErr w [] er (.returned (.tuple #[.slice none 0 0, .int .i64 er])) w' := ⟨none, 0, 0, rfl, rfl, Rs.nil _ _ _, hb⟩
theorem rq_rs {w w' : World} {A : Option Addr} {n c : Nat} {ys : List Xp} {t : TypeId} (h : Rq extE (fun x => w.heap.size ≤ x) w.heap.size t w' A n c ys) : Rs extE (fun x => w.heap.size ≤ x) w' A n c ys := h.toRs fun _ _ hb => hb
theorem mmay_any (n : Int) (w : World) : Calls Try.prog 37 #[.int .i64 n] w fun e w' => e = .returned (.bool (decide (1 ≤ n ∧ n ≤ 64))) ∧ w = w' := by
  by_cases h0 : n ≥ 1
  · by_cases h1 : n ≤ 64
    · rw [decide_eq_true ⟨h0, h1⟩]
      go_enter Try.func37, Try.ntmps37
      go_wp2
      go_ret
      exact ⟨rfl, rfl⟩
    · rw [decide_eq_false (fun hh => h1 hh.2)]
      go_enter Try.func37, Try.ntmps37
      go_wp2
      go_ret
      exact ⟨rfl, rfl⟩
  · rw [decide_eq_false (fun hh => h0 hh.1)]
    go_enter Try.func37, Try.ntmps37
    go_wp2
    go_ret
    exact ⟨rfl, rfl⟩
end Go.Proofs.Ytagageidiebogaa
