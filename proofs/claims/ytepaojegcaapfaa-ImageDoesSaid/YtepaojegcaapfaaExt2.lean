/-
  Contracts of Grow and Concat (two rows of bytes).
-/
import Derived.Test.YtepaojegcaapfaaExt1
import Derived.Lib.AppendZeros
import Derived.Deep.LoopGhost
import Derived.Test.YtepaojegcaapfaaJoin
namespace Go.Wag
open Go.RowKit
set_option linter.unusedVariables false
theorem own_zero {w : World} {e : TypeId} {cs : Array Value} {c : Nat} (hc : cs.size = c) (hm : c ≤ 9223372036854775807) : (w.drew.alloc (.cells cs e)).ownsRow w.heap.size e 1 (.slice (some ⟨w.heap.size, 0, none⟩) 0 c) 0 [] :=
  ⟨by simp, .inr ⟨w.heap.size, c, cs, rfl, Nat.le_refl _, heap_alloc_new w.drew _, by omega, by simp only [maxLen]; omega, by simpa using hc, by simp⟩⟩
end Go.Wag
namespace Go.Proofs.Ytepaojegcaapfaa
open Go.RowKit Go.Wag
set_option linter.unusedVariables false
set_option maxRecDepth 20000
theorem un3 : Try.prog.underlying 3 = some (.int .i64) := by kernel_rfl
theorem eGrow_any (s : Nat) (w : World) (hs : s ≤ 10000000000000) :
    Calls Try.prog 91 #[.slice none 0 0, .int .i64 (s : Int)] w (ByNew w []) := by
  have e0 : wrap64 ((s : Int) - 0) = s := by unfold wrap64; omega
  have h1 : ¬ ((s : Int) < 0) := by omega
  by_cases h0 : s = 0
  · subst h0
    go_enter Try.func91, Try.ntmps91
    go_wp2
    go_ret
    exact ⟨none, 0, 0, rfl, Nw.nil _ _ _, Below.refl _ _⟩
  · have hp : (s : Int) > 0 := by omega
    obtain ⟨i0, hi, hz0, hz1, hz2⟩ := info_parts i5
    have hr := Lib.run_append_nil_zeros (P := Try.prog) w 23 3 23 5 i0 (.int .u8 0) .i64 .i64 Try.underlying23 un3 hi hz0 s (by omega) (by omega) (by omega) (by rw [hz2]; omega)
    have hO := own_zero (w := w) (e := 5) (c := grownCap w s 0 5) (cs := Builtin.zeroCells (Value.int .u8 0).cells s ++ Builtin.zeroCells (Value.int .u8 0).cells (grownCap w s 0 5 - s)) (by
      have := grownCap_ge w s 0 5
      simp [Builtin.zeroCells, Value.cells]
      omega) (by have := grownCap_le_maxLen w s 0 5 (by simp only [maxLen]; omega); simpa [maxLen] using this)
    have hb : Below w.heap.size w (w.drew.alloc (.cells (Builtin.zeroCells (Value.int .u8 0).cells s ++ Builtin.zeroCells (Value.int .u8 0).cells (grownCap w s 0 5 - s)) 5)) := ((Below.refl w.heap.size w).drew).alloc (by simp) _
    have hc0 : ¬ ((grownCap w s 0 5 : Nat) : Int) < 0 := by omega
    generalize hw : w.drew.alloc (.cells (Builtin.zeroCells (Value.int .u8 0).cells s ++ Builtin.zeroCells (Value.int .u8 0).cells (grownCap w s 0 5 - s)) 5) = w2 at *
    generalize grownCap w s 0 5 = cp at *
    go_enter Try.func91, Try.ntmps91
    go_wp2_with (at_builtin; refine Lib.wpList_append_run _ rfl _ _ _ _ rfl _ _ rfl rfl _ _ hr ?_)
    go_ret
    exact ⟨_, _, _, rfl, hO, hb⟩

def cat2 (l l2 : List UInt8) (k : Nat) : List UInt8 := if k = 0 then [] else if k = 1 then l else l ++ l2
set_option maxHeartbeats 1000000 in
theorem eConcat_any (gr : Nat) (t : TypeId) (A : Option Addr) (n c : Nat) (l : List UInt8) (A2 : Option Addr) (n2 c2 : Nat) (l2 : List UInt8) (w : World) (V : Blk w gr #[.slice A n c, .slice A2 n2 c2] t) (h : Sl w A n c (l.map v8)) (h2 : Sl w A2 n2 c2 (l2.map v8)) (hn : n ≤ 1000000) (hn2 : n2 ≤ 1000000) :
    Calls Try.prog 62 #[.slice (some ⟨gr, 0, none⟩) 2 2] w (ByNew w (l ++ l2)) := by
  have hl : l.length = n := h.len8
  have hl2 : l2.length = n2 := h2.len8
  obtain ⟨i0, hi, hz0, hz1, hz2⟩ := info_parts i5
  obtain ⟨q0, q1, _⟩ := V.two
  go_enter Try.func62, Try.ntmps62
  go_wp2_with fail
  go_loopg [3, 11] 2 (fun g x i wr => ∃ k : Nat, k + g = 2 ∧ x = .int .i64 (((cat2 l l2 k).length : Nat) : Int) ∧ i = .int .i64 (k : Int) ∧ w = wr)
  case atStart => exact ⟨0, by omega, rfl, rfl, rfl⟩
  case round =>
    obtain ⟨k, hk, rfl, rfl, rfl⟩ := hrel
    by_cases k0 : k = 0
    · subst k0
      obtain rfl : gk = 2 := by omega
      have e1 : wrap64 ((((cat2 l l2 0).length : Nat) : Int) + (n : Int)) = ((cat2 l l2 1).length : Nat) := by simp only [cat2]; unfold wrap64; simp [hl]; omega
      have e2 : ¬ (((cat2 l l2 1).length : Nat) : Int) < 0 := by omega
      go_wp2_with fail
      go_roundg 1
      case measure => omega
      case rel => exact ⟨1, by omega, rfl, rfl, rfl⟩
    · by_cases k1 : k = 1
      · subst k1
        obtain rfl : gk = 1 := by omega
        have e1 : wrap64 ((((cat2 l l2 1).length : Nat) : Int) + (n2 : Int)) = ((cat2 l l2 2).length : Nat) := by simp only [cat2]; unfold wrap64; simp [hl, hl2]; omega
        have e2 : ¬ (((cat2 l l2 2).length : Nat) : Int) < 0 := by omega
        go_wp2_with fail
        go_roundg 0
        case measure => omega
        case rel => exact ⟨2, by omega, rfl, rfl, rfl⟩
      · obtain rfl : k = 2 := by omega
        obtain rfl : gk = 0 := by omega
        have hs : (cat2 l l2 2).length ≤ 10000000000000 := by simp [cat2, hl, hl2]; omega
        have hC := eGrow_any (cat2 l l2 2).length w hs
        generalize (cat2 l l2 2).length = s at *
        go_wp2_with fail
        refine hC.mono ?_
        clear hC
        rintro e w1 ⟨A1, n1, c1, rfl, O1, b1⟩
        obtain rfl : 0 = n1 := by simpa using O1.1
        go_wp2_with fail
        go_loopg [6, 27] 2 (fun g x i wr => ∃ (k : Nat) (Ar : Option Addr) (nr cr : Nat), k + g = 2 ∧ x = .slice Ar nr cr ∧ i = .int .i64 (k : Int) ∧ Nw 5 w wr Ar nr cr ((cat2 l l2 k).map v8) ∧ Below w.heap.size w wr)
        case atStart => exact ⟨0, _, _, _, by omega, rfl, rfl, O1, b1⟩
        case round =>
          obtain ⟨k, Ar, nr, cr, hk, rfl, rfl, O, bb⟩ := hrel
          have hnr : (cat2 l l2 k).length = nr := by simpa using O.1
          have hV := V.under bb
          obtain ⟨q0, q1, _⟩ := hV.two
          have hs1 := h.below bb
          have hs2 := h2.below bb
          have HO := Own.start O bb.size
          by_cases k0 : k = 0
          · subst k0
            obtain rfl : gk = 2 := by omega
            obtain rfl : nr = 0 := by rw [← hnr]; rfl
            go_wp2_with (at_builtin; refine wpList_app rfl (.tmp 31) (.tmp 32) 23 rfl rfl HO i0 (.int .u8 0) 1 Try.underlying23 hi hz0 hz1 hz2 rfl _ _ _ _ rfl hs1 (oneCell8 _) (by omega) (by omega) ?_; intro A3 c3 w3 hw3)
            go_roundg 1
            case measure => omega
            case rel => exact ⟨1, _, _, _, by omega, rfl, rfl, by have := hw3.own; rw [← List.map_append, Nat.zero_add] at this; exact this, own_below O hw3 bb⟩
          · by_cases k1 : k = 1
            · subst k1
              obtain rfl : gk = 1 := by omega
              obtain rfl : nr = n := by rw [← hnr]; simpa [cat2] using hl
              go_wp2_with (at_builtin; refine wpList_app rfl (.tmp 31) (.tmp 32) 23 rfl rfl HO i0 (.int .u8 0) 1 Try.underlying23 hi hz0 hz1 hz2 rfl _ _ _ _ rfl hs2 (oneCell8 _) (by omega) (by omega) ?_; intro A3 c3 w3 hw3)
              go_roundg 0
              case measure => omega
              case rel => exact ⟨2, _, _, _, by omega, rfl, rfl, by have := hw3.own; rw [← List.map_append] at this; exact this, own_below O hw3 bb⟩
            · obtain rfl : k = 2 := by omega
              go_wp2
              go_ret
              exact ⟨_, _, _, rfl, O, bb⟩
end Go.Proofs.Ytepaojegcaapfaa
