/-
  Plain facts on reading extents.
-/
import Derived.Test.YtagageidiebogaaExtMath
import Derived.Test.YtagageidiebogaaWords
namespace Go.Wag
open Go.RowKit
set_option linter.unusedVariables false
theorem xunpack_head {b : List UInt8} (h : 7 ≤ b.length) : unpackF [98, 98, 98, 119] (b.take 7) = some [UInt64.ofNat (hLa b), UInt64.ofNat (hN b), UInt64.ofNat (hK b), UInt64.ofNat (hG b)] := by
  have l1 : ltr ((98 : UInt8).toNat : Int) = 1 := by decide
  have l2 : ltr ((119 : UInt8).toNat : Int) = 4 := by decide
  simp only [unpackF, l1, l2, List.length_drop, List.length_take, List.drop_drop]
  rw [if_neg (by omega), if_neg (by omega), if_neg (by omega), if_neg (by omega), if_pos (List.drop_eq_nil_of_le (by rw [List.length_take]; omega))]
  simp only [Option.map_some, Option.some.injEq, List.cons.injEq, and_true]
  unfold hLa hN hK hG
  simp only [List.drop_take, List.take_take]
  exact ⟨rfl, rfl, rfl, rfl⟩
theorem xunpack_short {b : List UInt8} (h : b.length < 7) : unpackF [98, 98, 98, 119] b = none := by
  have l1 : ltr ((98 : UInt8).toNat : Int) = 1 := by decide
  have l2 : ltr ((119 : UInt8).toNat : Int) = 4 := by decide
  simp only [unpackF, l1, l2, List.length_drop, List.drop_drop]
  split
  · rfl
  split
  · rfl
  split
  · rfl
  rw [if_pos (by omega)]
  rfl
theorem xunpack_one {b : List UInt8} (c : UInt8) (t : List UInt8) (h : b = c :: t) : unpackF [98] (b.take 1) = some [UInt64.ofNat c.toNat] := by
  subst h
  have l1 : ltr ((98 : UInt8).toNat : Int) = 1 := by decide
  simp only [unpackF, l1, List.take_succ_cons, List.take_zero, List.length_cons, List.length_nil, List.drop_succ_cons, List.drop_zero]
  rw [if_neg (by omega), if_pos trivial]
  simp [lev]
theorem xunpack_none : unpackF [98] [] = none := by
  have l1 : ltr ((98 : UInt8).toNat : Int) = 1 := by decide
  simp only [unpackF, l1, List.length_nil]
  rw [if_pos (by omega)]
/-- The extent that bytes begin with, if it may be, and what stands behind it. -/
def fstX (b : List UInt8) : Option (Xp × List UInt8) := if 7 ≤ b.length ∧ 7 + hM b ≤ b.length ∧ (hX b).ok = true then some (hX b, b.drop (7 + hM b)) else none
theorem fst_no {b : List UInt8} (h : ¬ (7 ≤ b.length ∧ 7 + hM b ≤ b.length ∧ (hX b).ok = true)) : fstX b = none := by
  unfold fstX
  rw [if_neg h]
theorem fst_yes {b : List UInt8} (h : 7 ≤ b.length ∧ 7 + hM b ≤ b.length ∧ (hX b).ok = true) : fstX b = some (hX b, b.drop (7 + hM b)) := by
  unfold fstX
  rw [if_pos h]
theorem fst_rd (b : List UInt8) : fstX b = (rdX b).bind fun y => if y.1.ok = true then some y else none := by
  by_cases h : 7 ≤ b.length ∧ 7 + hM b ≤ b.length
  · have e : rdX b = some (hX b, b.drop (7 + hM b)) := by
      unfold rdX
      rw [if_pos ⟨h.2, h.1⟩]
    rw [e]
    simp only [Option.bind_some]
    by_cases ho : (hX b).ok = true
    · rw [fst_yes ⟨h.1, h.2, ho⟩, if_pos ho]
    · rw [fst_no (fun hh => ho hh.2.2), if_neg ho]
  · have e : rdX b = none := by
      unfold rdX
      rw [if_neg (fun hh => h ⟨hh.2, hh.1⟩)]
    rw [e, fst_no (fun hh => h ⟨hh.1, hh.2.1⟩)]
    rfl
theorem hX_len {b : List UInt8} (h : 7 + hM b ≤ b.length) : (hX b).l.length = hM b := by
  show ((b.drop 7).take (hM b)).length = _
  rw [List.length_take, List.length_drop]
  omega
theorem hM_le (b : List UInt8) : hM b ≤ 8160 := by
  have := hN_lt b
  unfold hM
  split <;> omega
theorem fst_some {b t : List UInt8} {x : Xp} (h : fstX b = some (x, t)) : x = hX b ∧ x.ok = true ∧ 7 + hM b ≤ b.length ∧ x.l.length = hM b ∧ t = b.drop (7 + hM b) ∧ rdX b = some (x, t) := by
  unfold fstX at h
  split at h
  · rename_i hc
    cases h
    refine ⟨rfl, hc.2.2, hc.2.1, hX_len hc.2.1, rfl, ?_⟩
    unfold rdX
    rw [if_pos ⟨hc.2.1, hc.1⟩]
  · cases h
/-- Reading one by one: so many extents that may be, and what is left. -/
def goX : Nat → List UInt8 → Option (List Xp × List UInt8)
  | 0, b => some ([], b)
  | n + 1, b => (fstX b).bind fun y => (goX n y.2).map fun z => (y.1 :: z.1, z.2)
theorem goX_par : ∀ (n : Nat) (b : List UInt8), goX n b = (parX n b).bind fun y => if xallok y.1 = true then some y else none
  | 0, b => by simp [goX, parX, xallok]
  | n + 1, b => by
    rw [goX, parX, fst_rd]
    cases hr : rdX b with
    | none => rfl
    | some y =>
      obtain ⟨x, t⟩ := y
      simp only [Option.bind_some]
      by_cases hx : x.ok = true
      · rw [if_pos hx]
        simp only [Option.bind_some]
        rw [goX_par n t]
        cases hp : parX n t with
        | none => rfl
        | some z =>
          simp only [Option.bind_some, Option.map_some]
          have e : xallok (x :: z.1) = xallok z.1 := by simp [xallok, hx]
          rw [e]
          split
          · rfl
          · rfl
      · rw [if_neg hx]
        cases hp : parX n t with
        | none => rfl
        | some z =>
          have e : ¬ xallok (x :: z.1) = true := by simp [xallok, hx]
          simp only [Option.bind_none, Option.map_some, Option.bind_some]
          rw [if_neg e]
theorem xrd_cons (c : UInt8) (t : List UInt8) : xrd (c :: t) = (goX c.toNat t).bind fun y => if y.2 = [] ∧ c.toNat ≤ 64 then some y.1 else none := by
  rw [goX_par]
  unfold xrd
  simp only
  cases hp : parX c.toNat t with
  | none => rfl
  | some y =>
    obtain ⟨l, r⟩ := y
    simp only [Option.bind_some]
    by_cases ha : xallok l = true
    · rw [if_pos ha]
      simp only [Option.bind_some, ha, and_true]
    · rw [if_neg ha, if_neg (fun hh => ha hh.2.2)]
      rfl
theorem goX_snoc : ∀ (n : Nat) (b : List UInt8) (l : List Xp) (t : List UInt8), goX n b = some (l, t) → goX (n + 1) b = (fstX t).map fun y => (l ++ [y.1], y.2)
  | 0, b, l, t, h => by
    cases h
    rw [goX]
    cases hf : fstX b with
    | none => rfl
    | some y => simp [goX]
  | n + 1, b, l, t, h => by
    rw [goX] at h
    rw [goX]
    cases hf : fstX b with
    | none => rw [hf] at h; cases h
    | some y =>
      rw [hf] at h
      simp only [Option.bind_some] at h ⊢
      cases hg : goX n y.2 with
      | none => rw [hg] at h; cases h
      | some z =>
        rw [hg] at h
        simp only [Option.map_some, Option.some.injEq, Prod.mk.injEq] at h
        obtain ⟨rfl, rfl⟩ := h
        rw [goX_snoc n y.2 z.1 z.2 hg]
        cases hq : fstX z.2 with
        | none => rfl
        | some u => simp
theorem goX_stop : ∀ (n : Nat) (b : List UInt8), goX n b = none → goX (n + 1) b = none
  | 0, b, h => by cases h
  | n + 1, b, h => by
    rw [goX] at h
    rw [goX]
    cases hf : fstX b with
    | none => rfl
    | some y =>
      rw [hf] at h
      simp only [Option.bind_some] at h ⊢
      cases hg : goX n y.2 with
      | none => rw [goX_stop n y.2 hg]; rfl
      | some z => rw [hg] at h; cases h
theorem goX_none {n m : Nat} (hnm : n ≤ m) {b : List UInt8} (h : goX n b = none) : goX m b = none := by
  induction hnm with
  | refl => exact h
  | step _ ih => exact goX_stop _ _ ih
theorem goX_len : ∀ (n : Nat) (b : List UInt8) (l : List Xp) (t : List UInt8), goX n b = some (l, t) → l.length = n
  | 0, b, l, t, h => by cases h; rfl
  | n + 1, b, l, t, h => by
    rw [goX] at h
    cases hf : fstX b with
    | none => rw [hf] at h; cases h
    | some y =>
      rw [hf] at h
      simp only [Option.bind_some] at h
      cases hg : goX n y.2 with
      | none => rw [hg] at h; cases h
      | some z =>
        rw [hg] at h
        simp only [Option.map_some, Option.some.injEq, Prod.mk.injEq] at h
        obtain ⟨rfl, rfl⟩ := h
        simp [goX_len n y.2 z.1 z.2 hg]
end Go.Wag
