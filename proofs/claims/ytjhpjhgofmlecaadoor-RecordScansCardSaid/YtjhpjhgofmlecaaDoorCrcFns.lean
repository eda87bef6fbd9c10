/-
  Contracts of package crc's functions on numbers: a step, a product, Join; More and Sum over a table that reads as it should.
-/
import Derived.Test.YtjhpjhgofmlecaaDoorCrcMath2
import Derived.Test.YtjhpjhgofmlecaaDoorLePut
import Derived.Test.YtjhpjhgofmlecaaDoorGoto
namespace Go.Proofs.YtjhpjhgofmlecaaDoor
open Go.RowKit Go.Wag
set_option linter.unusedVariables false

/-- The table of package crc, read. -/
def Tab (w : World) : Prop := ∀ i : Nat, i < 16 → w.cell? ⟨0, i, none⟩ = some (.int .u32 (tab16.getD i 0))

/-- Half a byte's round, in the walk's words. -/
theorem Tab.half {w : World} (hT : Tab w) (z : W32) : ∃ (q : Nat) (z' : W32) (t : Int), q < 16 ∧ bits .and .u32 (z.toNat : Int) 15 = (q : Int) ∧ w.cell? ⟨0, q, none⟩ = some (.int .u32 t) ∧ bits .xor .u32 ((z.toNat : Int) / 16) t = (z'.toNat : Int) ∧ Aside (z' = steps 4 z) :=
  ⟨(z &&& 15#32).toNat, steps 4 z, _, and15_lt z, and32 z 15#32, hT _ (and15_lt z), half32 z, rfl⟩
theorem Tab.below {w w' : World} (hT : Tab w) (h : Below w.heap.size w w') : Tab w' := fun i hi => by
  have h1 := hT i hi
  exact (h.cell (World.block_lt_of_cell? w _ h1)).trans h1

set_option maxHeartbeats 400000 in
theorem More_any (s : W32) (A : Option Addr) (n c : Nat) (l : List UInt8) (w : World) (hT : Tab w) (h : Sl w A n c (l.map v8)) :
    Calls Tryd.prog 45 #[.int .u32 (s.toNat : Int), .slice A n c] w fun e w' => e = .returned (.int .u32 ((moreF s l).toNat : Int)) ∧ w = w' := by
  have hx : bits .xor .u32 (s.toNat : Int) 4294967295 = ((s ^^^ ones).toNat : Int) := xor32 s ones
  go_enter Tryd.func45, Tryd.ntmps45
  go_wp2
  clear hx
  go_loopg [0, 6, 11] n (fun g x u i wr => w = wr ∧ ∃ (k : Nat) (y : W32), x = .int .u32 (y.toNat : Int) ∧ i = .int .i64 (k : Int) ∧ k + g = n ∧ Aside (y = raw (s ^^^ ones) (l.take k)))
  case atStart => exact ⟨rfl, 0, s ^^^ ones, rfl, rfl, by omega, rfl⟩
  case round =>
    obtain ⟨rfl, k, y, rfl, rfl, hk, hA⟩ := hrel
    by_cases hlt : k < n
    · obtain ⟨ad, rfl, hb, hl, hc⟩ := h.byte hlt
      have HS : Hid (l.take (k + 1) = l.take k ++ [l[k]]) := List.take_succ_eq_append_getElem hl
      obtain ⟨z, h1, hz⟩ : ∃ z : W32, bits .xor .u32 (y.toNat : Int) ((l[k].toNat : Int) % 4294967296) = (z.toNat : Int) ∧ Aside (z = y ^^^ b32 l[k]) := ⟨_, xor_byte y l[k], rfl⟩
      obtain ⟨q1, z1, t1, hq1, e1, c1, x1, hz1⟩ := hT.half z
      obtain ⟨q2, z2, t2, hq2, e2, c2, x2, hz2⟩ := hT.half z1
      obtain ⟨g, rfl⟩ : ∃ g, gk = g + 1 := ⟨gk - 1, by omega⟩
      have hcap := h.cap
      have hbig := h.big
      go_wp2
      go_roundg g
      case measure => omega
      case rel => exact ⟨rfl, k + 1, z2, rfl, by go_num, by omega, by rw [HS.out, raw_snoc, ← hA.out, ← hz.out, show (8 : Nat) = 4 + 4 from rfl, steps_add, ← hz1.out]; exact hz2.out⟩
    · have HL : Hid (l.take k = l) := List.take_of_length_le (by have := h.len8; omega)
      go_wp2
      go_ret
      exact ⟨ret_int (by rw [hA.out, HL.out]; exact xor32 _ ones), rfl⟩

theorem join_left (n : Int) (N : Nat) (h : min (max n 0) 1073741824 = (N : Int)) : (1073741824 < n → (N : Int) = 1073741824) ∧ (n < 0 → (N : Int) = 0) ∧ (0 ≤ n → n ≤ 1073741824 → (N : Int) = n) := by omega

/-- What holds at Join's label. -/
def JoinAt (a b : W32) (n : Int) (N : Nat) (w : World) (g : Nat) (a' : Act) (w' : World) : Prop :=
  w' = w ∧ ∃ (x y : W32) (u9 u10 u11 u12 u13 u14 u15 u16 u17 u18 u19 u20 u21 u22 u23 u24 u25 u26 u27 : Value), a' = { tmps := #[.int .u32 (x.toNat : Int), .int .u32 (b.toNat : Int), .int .i64 n, undef, undef, undef, .int .u32 0, .int .i64 (g : Int), .int .u32 (y.toNat : Int), u9, u10, u11, u12, u13, u14, u15, u16, u17, u18, u19, u20, u21, u22, u23, u24, u25, u26, u27], defers := [] } ∧ Aside (∃ m, y = steps m 0x80000000#32 ∧ steps (m * g) x = steps (8 * N) a)

theorem JoinAt.start {a b : W32} {n : Int} {N : Nat} {w : World} {q : Int} (hq : (N : Int) = q) {u9 u10 u11 u12 u13 u14 u15 u16 u17 u18 u19 u20 u21 u22 u23 u24 u25 u26 u27 : Value} :
    JoinAt a b n N w N { tmps := #[.int .u32 (a.toNat : Int), .int .u32 (b.toNat : Int), .int .i64 n, undef, undef, undef, .int .u32 0, .int .i64 q, .int .u32 8388608, u9, u10, u11, u12, u13, u14, u15, u16, u17, u18, u19, u20, u21, u22, u23, u24, u25, u26, u27], defers := [] } w := by
  subst hq
  exact ⟨rfl, a, 0x800000#32, _, _, _, _, _, _, _, _, _, _, _, _, _, _, _, _, _, _, _, rfl, 8, steps8_top.symm, rfl⟩

end Go.Proofs.YtjhpjhgofmlecaaDoor
