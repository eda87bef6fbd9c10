/-
  Contract of Few, and plain facts on bytes of extents.
-/
import Derived.Test.YtagageidiebogaaExtAwake
namespace Go.Wag
theorem xencs_max : ∀ (l : List Xp), xallok l = true → (xencs l).length ≤ 2055 * l.length
  | [], _ => by simp [xencs]
  | x :: l, h => by
    have h1 : x.ok = true ∧ xallok l = true := by simpa [xallok] using h
    have h2 := xencs_max l h1.2
    have h3 := Xp.len_le h1.1
    rw [xencs_cons, List.length_append, xenc_length, List.length_cons]
    omega
theorem xwr_max {l : List Xp} {b : List UInt8} (h : xwr l = some b) : b.length ≤ 131521 := by
  obtain ⟨h1, h2, rfl⟩ := xwr_some h
  have := xencs_max l h2
  rw [List.length_cons]
  omega
theorem xrd_la {l : List Xp} {b : List UInt8} (h : xrd b = some l) : ∀ x ∈ l, x.la ≤ 9223372036854775807 := fun x hx => by
  have := Xp.all (xallok_all (xwr_some (xwr_rd h)).2.1 x hx)
  omega
end Go.Wag
namespace Go.Proofs.Ytagageidiebogaa
open Go.RowKit Go.Wag
set_option linter.unusedVariables false
set_option maxRecDepth 20000
/-- What Few answers. -/
def FewPost (xs : List Xp) (n : Nat) (w : World) (e : Ending) (w' : World) : Prop := ∃ r, e = .returned (.bool r) ∧ (r = true → n ≤ 70 ∧ ∀ x ∈ xs, x.l.length ≤ 3000) ∧ w = w'
theorem few_any {F : Nat → Prop} (xs : List Xp) (A : Option Addr) (n c : Nat) (w : World) (h : Rs extE F w A n c xs) :
    Calls Try.prog 5 #[.slice A n c] w (FewPost xs n w) := by
  have HN : Hid (xs.length = n) := h.len
  have hcap := h.cap
  have hbig := h.big
  by_cases h70 : (n : Int) > 70
  · go_enter Try.func5, Try.ntmps5
    go_wp2
    go_ret
    exact ⟨false, rfl, (fun h => by cases h), rfl⟩
  · have h70' : Hid (n ≤ 70) := by unfold Hid; omega
    go_enter Try.func5, Try.ntmps5
    go_wp2
    go_loopg [3] n (fun g i wr => ∃ k : Nat, k + g = n ∧ i = .int .i64 (k : Int) ∧ Hid (∀ j x, j < k → xs[j]? = some x → x.l.length ≤ 3000) ∧ w = wr)
    case atStart => exact ⟨0, by omega, rfl, fun j x hj => absurd hj (by omega), rfl⟩
    case round =>
      obtain ⟨k, hk, rfl, hall, rfl⟩ := hrel
      by_cases hlt : (k : Int) < (n : Int)
      · obtain ⟨g, rfl⟩ : ∃ g, gk = g + 1 := ⟨gk - 1, by omega⟩
        obtain ⟨gb, o, x, Ai, ci, rfl, _, hg, hz, c0, c1, c2, c3, c4, hS, _⟩ := h.ext_at (show k < n by omega)
        by_cases hb : (x.l.length : Int) > 3000
        · clear hz
          go_wp2
          go_ret
          exact ⟨false, rfl, (fun h => by cases h), rfl⟩
        · have hall2 : Hid (∀ j x, j < k + 1 → xs[j]? = some x → x.l.length ≤ 3000) := fun j y hj hy => by
            by_cases hjk : j = k
            · subst hjk
              cases hz.symm.trans hy
              omega
            · exact hall.out j y (by omega) hy
          clear hz
          go_wp2
          go_roundg g
          case measure => omega
          case rel => exact ⟨k + 1, by omega, by first | rfl | (simp; done) | (simp; exact wrap64_small (by omega) (by omega)), hall2, rfl⟩
      · have hfin : Hid (True → n ≤ 70 ∧ ∀ x ∈ xs, x.l.length ≤ 3000) := fun _ => ⟨h70'.out, fun x hx => by
          obtain ⟨j, hj⟩ := List.mem_iff_getElem?.1 hx
          have := (List.getElem?_eq_some_iff.1 hj).1
          exact hall.out j x (by have := HN.out; omega) hj⟩
        go_wp2
        go_ret
        exact ⟨true, rfl, fun _ => hfin.out trivial, rfl⟩
end Go.Proofs.Ytagageidiebogaa
