/-
  Contracts of the document's answer for layer 2: a step, More, columns.
-/
import Derived.Test.YtdjengpjbgejlaaDoorCrcBurstWalk
namespace Go.Proofs.YtdjengpjbgejlaaDoor
open Go.RowKit Go.Wag
set_option linter.unusedVariables false

set_option maxHeartbeats 400000 in
theorem refStep_any (x : W32) (w : World) : Calls Tryd.prog 20 #[.int .u32 (x.toNat : Int)] w fun e w' => e = .returned (.int .u32 ((step1 x).toNat : Int)) ∧ w = w' := by
  cases hb : x.getLsbD 0
  · have h2 := mod2_32 x
    rw [hb] at h2
    go_enter Tryd.func20, Tryd.ntmps20
    go_wp2
    go_ret
    exact ⟨ret_int (step_even32 x (by rw [odd32, hb])), rfl⟩
  · have h2 := mod2_32 x
    rw [hb] at h2
    go_enter Tryd.func20, Tryd.ntmps20
    go_wp2
    go_ret
    exact ⟨ret_int (step_odd32 x (by rw [odd32, hb])), rfl⟩

set_option maxHeartbeats 400000 in
theorem refMore_any (s : W32) (A : Option Addr) (n c : Nat) (l : List UInt8) (w : World) (h : Sl w A n c (l.map v8)) :
    Calls Tryd.prog 13 #[.int .u32 (s.toNat : Int), .slice A n c] w fun e w' => e = .returned (.int .u32 ((moreF s l).toNat : Int)) ∧ w = w' := by
  have hx : bits .xor .u32 (s.toNat : Int) 4294967295 = ((s ^^^ ones).toNat : Int) := xor32 s ones
  have hcap := h.cap
  have hbig := h.big
  go_enter Tryd.func13, Tryd.ntmps13
  go_wp2
  clear hx
  go_loopg [5, 6] n (fun g x i wr => w = wr ∧ ∃ (k : Nat) (y : W32), x = .int .u32 (y.toNat : Int) ∧ i = .int .i64 (k : Int) ∧ k + g = n ∧ Aside (y = raw (s ^^^ ones) (l.take k)))
  case atStart => exact ⟨rfl, 0, s ^^^ ones, rfl, rfl, by omega, rfl⟩
  case round =>
    obtain ⟨rfl, k, y, rfl, rfl, hk, hA⟩ := hrel
    by_cases hlt : k < n
    · obtain ⟨ad, rfl, hb, hl, hc⟩ := h.byte hlt
      have HS : Hid (l.take (k + 1) = l.take k ++ [l[k]]) := List.take_succ_eq_append_getElem hl
      obtain ⟨z, h1, hz⟩ : ∃ z : W32, bits .xor .u32 (y.toNat : Int) ((l[k].toNat : Int) % 4294967296) = (z.toNat : Int) ∧ Aside (z = y ^^^ b32 l[k]) := ⟨_, xor_byte y l[k], rfl⟩
      obtain ⟨g, rfl⟩ : ∃ g, gk = g + 1 := ⟨gk - 1, by omega⟩
      go_wp2
      go_loopg [5, 7] 8 (fun g x i wr => w = wr ∧ ∃ (j : Nat) (y' : W32), x = .int .u32 (y'.toNat : Int) ∧ i = .int .i64 (j : Int) ∧ j + g = 8 ∧ Aside (y' = steps j z))
      case atStart => exact ⟨rfl, 0, z, rfl, rfl, by omega, rfl⟩
      case round =>
        obtain ⟨rfl, j, y', rfl, rfl, hj, hA'⟩ := hrel
        by_cases hlt' : j < 8
        · obtain ⟨g', rfl⟩ : ∃ g, gk = g + 1 := ⟨gk - 1, by omega⟩
          go_wp2_with fail
          refine (refStep_any y' w).mono ?_
          rintro e w1 ⟨rfl, rfl⟩
          go_wp2
          go_roundg g'
          case measure => omega
          case rel => exact ⟨rfl, j + 1, step1 y', rfl, by go_num, by omega, by rw [hA'.out]; exact (steps_add j 1 z).symm⟩
        · obtain rfl : j = 8 := by omega
          go_wp2
          go_roundg g
          case measure => omega
          case rel => exact ⟨rfl, k + 1, y', rfl, by go_num, by omega, by rw [HS.out, raw_snoc, ← hA.out, ← hz.out]; exact hA'.out⟩
    · have HL : Hid (l.take k = l) := List.take_of_length_le (by have := h.len8; omega)
      go_wp2
      go_ret
      exact ⟨ret_int (by rw [hA.out, HL.out]; exact xor32 _ ones), rfl⟩

/-- The columns of an array. -/
def colOf (cs : List W32) (i : Nat) : W32 := cs.getD i 0#32
/-- An array of thirty-two numbers, in a block of its own. -/
def Arr (w : World) (g : Nat) (cs : List W32) : Prop := w.heap[g]? = some (.cells (cs.map v32).toArray 45)
theorem Arr.cell {w : World} {g : Nat} {cs : List W32} (h : Arr w g cs) (k : Nat) (hk : k < cs.length) : w.cell? ⟨g, k, none⟩ = some (.int .u32 ((cs[k]).toNat : Int)) := by
  rw [cell_of_row w g k _ _ _ h]
  simp [v32, hk]

set_option maxHeartbeats 400000 in
theorem column_any (cs : List W32) (hcs : cs.length = 32) (x : W32) (w : World) :
   Calls Tryd.prog 22 #[.agg (cs.map v32).toArray, .int .u32 (x.toNat : Int)] w fun e w' => e = .returned (.int .u32 ((colF (colOf cs) 32 x).toNat : Int)) ∧ Below w.heap.size w w' := by
  have HA : Arr (w.alloc (.cells (cs.map v32).toArray 45)) w.heap.size cs := heap_alloc_new w _
  have hB : Below w.heap.size w (w.alloc (.cells (cs.map v32).toArray 45)) := (Below.refl _ w).alloc (Nat.le_refl _) _
  go_enter Tryd.func22, Tryd.ntmps22
  go_wp2
  generalize hw1 : w.alloc (.cells (cs.map v32).toArray 45) = w1 at *
  go_loopg [5, 6] 32 (fun g o i wr => w1 = wr ∧ ∃ (k : Nat) (y : W32), o = .int .u32 (y.toNat : Int) ∧ i = .int .i64 (k : Int) ∧ k + g = 32 ∧ Aside (y = colF (colOf cs) k x))
  case atStart => exact ⟨rfl, 0, 0#32, rfl, rfl, by omega, rfl⟩
  case round =>
    obtain ⟨rfl, k, y, rfl, rfl, hk, hA⟩ := hrel
    by_cases hlt : (k : Int) < 32
    · obtain ⟨g, rfl⟩ : ∃ g, gk = g + 1 := ⟨gk - 1, by omega⟩
      have hc := HA.cell k (by omega)
      obtain ⟨z, hz⟩ : ∃ z : W32, Aside (z = cs[k]) := ⟨cs[k], rfl⟩
      rw [← hz.out] at hc
      obtain ⟨q, hq, hqz⟩ : ∃ q : W32, bits .xor .u32 (y.toNat : Int) (z.toNat : Int) = (q.toNat : Int) ∧ Aside (q = y ^^^ z) := ⟨_, xor32 y z, rfl⟩
      have hzk : z = colOf cs k := by rw [hz.out]; simp [colOf, List.getD, show k < cs.length by omega]
      have HZ := Lib.hid hzk
      clear hzk
      cases hv : x.getLsbD k
      · have ht := bit_no x k hv
        go_wp2
        go_roundg g
        case measure => omega
        case rel => exact ⟨rfl, k + 1, y, rfl, by go_num, by omega, by show y = _; rw [colF, hv]; simpa using hA.out⟩
      · have ht := bit_yes x k hv
        go_wp2
        go_roundg g
        case measure => omega
        case rel => exact ⟨rfl, k + 1, q, rfl, by go_num, by omega, by show q = _; rw [colF, hv, if_pos rfl, hqz.out, hA.out, HZ.out]⟩
    · obtain rfl : k = 32 := by omega
      go_wp2
      go_ret
      exact ⟨ret_int (by rw [hA.out]), hB⟩
end Go.Proofs.YtdjengpjbgejlaaDoor
