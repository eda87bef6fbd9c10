/-
  Contracts of the document's answer for layer 2: a step, More, columns.
-/
import Derived.Test.YtjhpjhgofmlecaaDoorCrcBurstWalk
namespace Go.Proofs.YtjhpjhgofmlecaaDoor
open Go.RowKit Go.Wag
set_option linter.unusedVariables false

set_option maxHeartbeats 400000 in
theorem refStep_any (x : W32) (w : World) : Calls Tryd.prog 47 #[.int .u32 (x.toNat : Int)] w fun e w' => e = .returned (.int .u32 ((step1 x).toNat : Int)) ∧ w = w' := by
  cases hb : x.getLsbD 0
  · have h2 := mod2_32 x
    rw [hb] at h2
    go_enter Tryd.func47, Tryd.ntmps47
    go_wp2
    go_ret
    exact ⟨ret_int (step_even32 x (by rw [odd32, hb])), rfl⟩
  · have h2 := mod2_32 x
    rw [hb] at h2
    go_enter Tryd.func47, Tryd.ntmps47
    go_wp2
    go_ret
    exact ⟨ret_int (step_odd32 x (by rw [odd32, hb])), rfl⟩

set_option maxHeartbeats 400000 in
theorem refMore_any (s : W32) (A : Option Addr) (n c : Nat) (l : List UInt8) (w : World) (h : Sl w A n c (l.map v8)) :
    Calls Tryd.prog 39 #[.int .u32 (s.toNat : Int), .slice A n c] w fun e w' => e = .returned (.int .u32 ((moreF s l).toNat : Int)) ∧ w = w' := by
  have hx : bits .xor .u32 (s.toNat : Int) 4294967295 = ((s ^^^ ones).toNat : Int) := xor32 s ones
  have hcap := h.cap
  have hbig := h.big
  go_enter Tryd.func39, Tryd.ntmps39
  go_wp2
  clear hx
  go_loopg [5, 6] n (fun g x i wr => w = wr ∧ ∃ (k : Nat) (y : W32), x = .int .u32 (y.toNat : Int) ∧ i = .int .i64 (k : Int) ∧ k + g = n ∧ Aside (y = raw (s ^^^ ones) (l.take k)))
  case atStart => exact ⟨rfl, 0, s ^^^ ones, rfl, rfl, by omega, rfl⟩
  case round =>
    obtain ⟨rfl, k, y, rfl, rfl, hk, hA⟩ := hrel
    by_cases hlt : k < n
    · obtain ⟨ad, rfl, hb, hl, hc⟩ := h.byte hlt
      have HS : Hid (l.take (k + 1) = l.take k ++ [l[k]]) := List.take_succ_eq_append_getElem hl
      obtain ⟨z, h1, hz⟩ : ∃ z : W32, bits .xor .u32 (y.toNat : Int) ((l[k].toNat : Int) % 4294967296) = (z.toNat : Int) ∧ Aside (z = y ^^^ b32 l[k]) := ⟨_, xor_byte y l[k], rfl⟩
      obtain ⟨g, rfl⟩ : ∃ g, gk = g + 1 := ⟨gk - 1, by omega⟩
      go_wp2
      go_loopg [5, 7] 8 (fun g x i wr => w = wr ∧ ∃ (j : Nat) (y' : W32), x = .int .u32 (y'.toNat : Int) ∧ i = .int .i64 (j : Int) ∧ j + g = 8 ∧ Aside (y' = steps j z))
      case atStart => exact ⟨rfl, 0, z, rfl, rfl, by omega, rfl⟩
      case round =>
        obtain ⟨rfl, j, y', rfl, rfl, hj, hA'⟩ := hrel
        by_cases hlt' : j < 8
        · obtain ⟨g', rfl⟩ : ∃ g, gk = g + 1 := ⟨gk - 1, by omega⟩
          go_wp2_with fail
          refine (refStep_any y' w).mono ?_
          rintro e w1 ⟨rfl, rfl⟩
          go_wp2
          go_roundg g'
          case measure => omega
          case rel => exact ⟨rfl, j + 1, step1 y', rfl, by go_num, by omega, by rw [hA'.out]; exact (steps_add j 1 z).symm⟩
        · obtain rfl : j = 8 := by omega
          go_wp2
          go_roundg g
          case measure => omega
          case rel => exact ⟨rfl, k + 1, y', rfl, by go_num, by omega, by rw [HS.out, raw_snoc, ← hA.out, ← hz.out]; exact hA'.out⟩
    · have HL : Hid (l.take k = l) := List.take_of_length_le (by have := h.len8; omega)
      go_wp2
      go_ret
      exact ⟨ret_int (by rw [hA.out, HL.out]; exact xor32 _ ones), rfl⟩

/-- The columns of an array. -/
def colOf (cs : List W32) (i : Nat) : W32 := cs.getD i 0#32
end Go.Proofs.YtjhpjhgofmlecaaDoor
