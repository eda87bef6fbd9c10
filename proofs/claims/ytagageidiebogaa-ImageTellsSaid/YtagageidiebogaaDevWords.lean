/-
  Words for devices: a slice of zones that reads as a list ('Zs'). No program is named here.
-/
import Derived.Test.YtagageidiebogaaJoin
import Derived.Test.YtagageidiebogaaStore
import Derived.Test.YtagageidiebogaaSteps
namespace Go.Wag
open Go.RowKit
set_option linter.unusedVariables false
set_option maxRecDepth 20000

section
variable {w w' : World} {k : Nat} {t : TypeId}
theorem Blk.two {v0 v1 : Value} (h : Blk w k #[v0, v1] t) : w.cell? ⟨k, 0, none⟩ = some v0 ∧ w.cell? ⟨k, 1, none⟩ = some v1 ∧ w.frozen? ⟨k, 0, none⟩ = false ∧ w.frozen? ⟨k, 1, none⟩ = false :=
  ⟨h.cell 0, h.cell 1, h.frozen 0, h.frozen 1⟩
theorem Blk.five {v0 v1 v2 v3 v4 : Value} (h : Blk w k #[v0, v1, v2, v3, v4] t) : w.cell? ⟨k, 0, none⟩ = some v0 ∧ w.cell? ⟨k, 1, none⟩ = some v1 ∧ w.cell? ⟨k, 2, none⟩ = some v2 ∧ w.cell? ⟨k, 3, none⟩ = some v3 ∧ w.cell? ⟨k, 4, none⟩ = some v4 ∧
    w.frozen? ⟨k, 0, none⟩ = false ∧ w.frozen? ⟨k, 1, none⟩ = false ∧ w.frozen? ⟨k, 2, none⟩ = false ∧ w.frozen? ⟨k, 3, none⟩ = false ∧ w.frozen? ⟨k, 4, none⟩ = false :=
  ⟨h.cell 0, h.cell 1, h.cell 2, h.cell 3, h.cell 4, h.frozen 0, h.frozen 1, h.frozen 2, h.frozen 3, h.frozen 4⟩
theorem Blk.eight {v0 v1 v2 v3 v4 v5 v6 v7 : Value} (h : Blk w k #[v0, v1, v2, v3, v4, v5, v6, v7] t) : w.cell? ⟨k, 0, none⟩ = some v0 ∧ w.cell? ⟨k, 1, none⟩ = some v1 ∧ w.cell? ⟨k, 2, none⟩ = some v2 ∧ w.cell? ⟨k, 3, none⟩ = some v3 ∧ w.cell? ⟨k, 4, none⟩ = some v4 ∧ w.cell? ⟨k, 5, none⟩ = some v5 ∧ w.cell? ⟨k, 6, none⟩ = some v6 ∧ w.cell? ⟨k, 7, none⟩ = some v7 ∧
    w.frozen? ⟨k, 0, none⟩ = false ∧ w.frozen? ⟨k, 1, none⟩ = false ∧ w.frozen? ⟨k, 2, none⟩ = false ∧ w.frozen? ⟨k, 3, none⟩ = false ∧ w.frozen? ⟨k, 4, none⟩ = false ∧ w.frozen? ⟨k, 5, none⟩ = false ∧ w.frozen? ⟨k, 6, none⟩ = false ∧ w.frozen? ⟨k, 7, none⟩ = false :=
  ⟨h.cell 0, h.cell 1, h.cell 2, h.cell 3, h.cell 4, h.cell 5, h.cell 6, h.cell 7, h.frozen 0, h.frozen 1, h.frozen 2, h.frozen 3, h.frozen 4, h.frozen 5, h.frozen 6, h.frozen 7⟩
end

/-- All blocks that were there, but kr, are as they were. -/
structure But (kr : Nat) (w w' : World) : Prop where
  size : w.heap.size ≤ w'.heap.size
  block : ∀ i, i < w.heap.size → i ≠ kr → w'.heap[i]? = w.heap[i]?
theorem But.refl (kr : Nat) (w : World) : But kr w w := ⟨Nat.le_refl _, fun _ _ _ => rfl⟩
theorem But.drew {kr : Nat} {w w' : World} (h : But kr w w') : But kr w w'.drew := ⟨h.size, h.block⟩
theorem But.call {kr : Nat} {w w' w2 : World} (h : But kr w w') (b : Below w'.heap.size w' w2) : But kr w w2 :=
  ⟨Nat.le_trans h.size b.size, fun i hi hk => (b.block i (Nat.lt_of_lt_of_le hi h.size)).trans (h.block i hi hk)⟩
theorem But.set {kr : Nat} {w w' : World} (h : But kr w w') (i : Nat) (u : Value) : But kr w (w'.setCell ⟨kr, i, none⟩ u) :=
  ⟨by simpa [World.setCell] using h.size, fun j hj hk => (Below.heap_setCell _ _ _ _ (by simpa using hk)).trans (h.block j hj hk)⟩
theorem Blk.but {kr k : Nat} {w w' : World} {vs : Array Value} {t : TypeId} (h : Blk w k vs t) (hb : But kr w w') (hk : k ≠ kr) : Blk w' k vs t := (hb.block k h.lt hk).trans h
theorem But.cell {kr : Nat} {w w' : World} (hb : But kr w w') {p : Addr} (hp : p.block < w.heap.size) (hk : p.block ≠ kr) : w'.cell? p = w.cell? p := World.cell?_of_block (hb.block _ hp hk)
theorem Sl.but {kr : Nat} {w w' : World} {A : Option Addr} {n c : Nat} {xs : List Value} (h : Sl w A n c xs) (hb : But kr w w') (hA : 0 < n → ∀ ad, A = some ad → ad.block ≠ kr) : Sl w' A n c xs :=
  ⟨h.len, h.cap, h.big, fun hn => by
    obtain ⟨ad, e, hl, hc⟩ := h.cells hn
    exact ⟨ad, e, Nat.lt_of_lt_of_le hl hb.size, fun j u hu => (hb.cell (by rw [add_block]; exact hl) (by rw [add_block]; exact hA hn ad e)).trans (hc j u hu)⟩⟩

theorem Sl.farz {w' : World} {A : Option Addr} {n c : Nat} {xs : List Value} (h : Sl w' A n c xs) {a : Addr} (ha : 0 < n → ∀ ad, A = some ad → ad.block ≠ a.block) (u : Value) : Sl (w'.setCell a u) A n c xs := by
  rcases Nat.eq_zero_or_pos n with h0 | h0
  · exact ⟨h.len, h.cap, h.big, fun hn => absurd hn (by omega)⟩
  · exact h.far (ha h0) u

/-- A zone as data: state, resets, how much lasts, bytes. -/
structure Zp where
  st : Int
  rs : Int
  la : Int
  l : List UInt8

/-- The four cells of zone z, in block g from cell i on; its bytes lie in blocks that meet F. -/
def ZAt (F : Nat → Prop) (w : World) (g i : Nat) (z : Zp) : Prop :=
  ∃ A c, w.cell? ⟨g, i, none⟩ = some (.int .i64 z.st) ∧ w.cell? ⟨g, i + 1, none⟩ = some (.int .i64 z.rs) ∧ w.cell? ⟨g, i + 2, none⟩ = some (.slice A z.l.length c) ∧ w.cell? ⟨g, i + 3, none⟩ = some (.int .i64 z.la) ∧
    Sl w A z.l.length c (z.l.map v8) ∧ (0 < z.l.length → ∀ ad, A = some ad → F ad.block)

/-- '.slice A n c' reads as the zones zs, all of it in blocks that meet F. -/
structure Zs (F : Nat → Prop) (w : World) (A : Option Addr) (n c : Nat) (zs : List Zp) : Prop where
  len : zs.length = n
  cap : n ≤ c
  big : c ≤ 9223372036854775807
  cells : 0 < n → ∃ g o, A = some ⟨g, o, none⟩ ∧ F g ∧ g < w.heap.size ∧ ∀ i z, zs[i]? = some z → ZAt F w g (o + i * 4) z

section
variable {F : Nat → Prop} {w w' : World} {A : Option Addr} {n c : Nat} {zs : List Zp}
theorem ZAt.keep {g i : Nat} {z : Zp} (h : ZAt F w g i z) (hg : g < w.heap.size) (hs : w.heap.size ≤ w'.heap.size) (hk : ∀ p : Addr, p.block < w.heap.size → F p.block → w'.cell? p = w.cell? p) (hF : F g) : ZAt F w' g i z := by
  obtain ⟨A, c, h0, h1, h2, h3, hS, hA⟩ := h
  refine ⟨A, c, (hk ⟨g, i, none⟩ hg hF).trans h0, (hk ⟨g, i + 1, none⟩ hg hF).trans h1, (hk ⟨g, i + 2, none⟩ hg hF).trans h2, (hk ⟨g, i + 3, none⟩ hg hF).trans h3, ⟨hS.len, hS.cap, hS.big, fun hn => ?_⟩, hA⟩
  obtain ⟨ad, e, hb, hc⟩ := hS.cells hn
  exact ⟨ad, e, by omega, fun j u hu => (hk _ (by rw [add_block]; exact hb) (by rw [add_block]; exact hA hn ad e)).trans (hc j u hu)⟩
theorem Zs.keep (h : Zs F w A n c zs) (hs : w.heap.size ≤ w'.heap.size) (hk : ∀ p : Addr, p.block < w.heap.size → F p.block → w'.cell? p = w.cell? p) : Zs F w' A n c zs :=
  ⟨h.len, h.cap, h.big, fun hn => by
    obtain ⟨g, o, e, hF, hg, hc⟩ := h.cells hn
    exact ⟨g, o, e, hF, by omega, fun i z hz => (hc i z hz).keep hg hs hk hF⟩⟩
theorem Zs.below (h : Zs F w A n c zs) (hb : Below w.heap.size w w') : Zs F w' A n c zs := h.keep hb.size fun _ hp _ => hb.cell hp
theorem Zs.alloc (h : Zs F w A n c zs) (o : Obj) : Zs F (w.alloc o) A n c zs := h.below ((Below.refl _ _).alloc (Nat.le_refl _) o)
theorem cell_far {a p : Addr} (w : World) (u : Value) (h : p.block ≠ a.block) : (w.setCell a u).cell? p = w.cell? p :=
  World.cell?_of_block (Below.heap_setCell _ _ _ _ h)
theorem Zs.far (h : Zs F w A n c zs) {a : Addr} (ha : ¬ F a.block) (u : Value) : Zs F (w.setCell a u) A n c zs :=
  h.keep (by simp [World.setCell]) fun p _ hF => cell_far w u (fun e => ha (e ▸ hF))
theorem ZAt.imp {F' : Nat → Prop} {g i : Nat} {z : Zp} (h : ZAt F w g i z) (hF : ∀ b, b < w.heap.size → F b → F' b) : ZAt F' w g i z := by
  obtain ⟨A, c, h0, h1, h2, h3, hS, hA⟩ := h
  refine ⟨A, c, h0, h1, h2, h3, hS, fun hn ad e => ?_⟩
  obtain ⟨ad', e', hb, _⟩ := hS.cells hn
  cases e.symm.trans e'
  exact hF _ hb (hA hn ad e)
theorem Zs.imp {F' : Nat → Prop} (h : Zs F w A n c zs) (hF : ∀ b, b < w.heap.size → F b → F' b) : Zs F' w A n c zs :=
  ⟨h.len, h.cap, h.big, fun hn => by
    obtain ⟨g, o, e, hG, hg, hc⟩ := h.cells hn
    exact ⟨g, o, e, hF g hg hG, hg, fun i z hz => (hc i z hz).imp hF⟩⟩
theorem Zs.nil (F : Nat → Prop) (w : World) : Zs F w none 0 0 [] := ⟨rfl, Nat.le_refl _, by omega, fun h => absurd h (by omega)⟩
/-- Zone i of them. -/
theorem Zs.at_ (h : Zs F w A n c zs) {i : Nat} (hi : i < n) : ∃ g o z Ai ci, A = some ⟨g, o, none⟩ ∧ F g ∧ g < w.heap.size ∧ zs[i]? = some z ∧ w.cell? ⟨g, o + i * 4, none⟩ = some (.int .i64 z.st) ∧ w.cell? ⟨g, o + i * 4 + 1, none⟩ = some (.int .i64 z.rs) ∧
    w.cell? ⟨g, o + i * 4 + 2, none⟩ = some (.slice Ai z.l.length ci) ∧ w.cell? ⟨g, o + i * 4 + 3, none⟩ = some (.int .i64 z.la) ∧ Sl w Ai z.l.length ci (z.l.map v8) ∧ (0 < z.l.length → ∀ ad, Ai = some ad → F ad.block) := by
  obtain ⟨g, o, e, hF, hg, hc⟩ := h.cells (by omega)
  have hl : i < zs.length := by have := h.len; omega
  obtain ⟨Ai, ci, h0, h1, h2, h3, hS, hA⟩ := hc i _ (List.getElem?_eq_getElem hl)
  exact ⟨g, o, zs[i], Ai, ci, e, hF, hg, List.getElem?_eq_getElem hl, h0, h1, h2, h3, hS, hA⟩
end

/-- At most a hundred zones, each of at most 2^20 bytes. -/
def Sm (zs : List Zp) : Prop := zs.length ≤ 100 ∧ ∀ z ∈ zs, z.l.length ≤ 1048576
theorem Sm.at_ {zs : List Zp} (h : Sm zs) {i : Nat} {z : Zp} (hz : zs[i]? = some z) : z.l.length ≤ 1048576 := h.2 z (List.mem_of_getElem? hz)

/-- A row of zones that the call has made itself: block g holds n zones, cell by cell; the bytes lie in other blocks from B on. -/
structure Zo (B : Nat) (t : TypeId) (w : World) (g : Nat) (zs : List Zp) : Prop where
  base : B ≤ g
  blk : ∃ vs : Array Value, vs.size = zs.length * 4 ∧ Blk w g vs t
  at_ : ∀ i z, zs[i]? = some z → ZAt (fun b => B ≤ b ∧ b ≠ g) w g (i * 4) z
section
variable {B : Nat} {t : TypeId} {w w' : World} {g : Nat} {zs : List Zp}
theorem Zo.lt (h : Zo B t w g zs) : g < w.heap.size := by
  obtain ⟨vs, _, hb⟩ := h.blk
  exact hb.lt
theorem Zo.mono {B' : Nat} (h : Zo B t w g zs) (hB : B' ≤ B) : Zo B' t w g zs :=
  ⟨Nat.le_trans hB h.base, h.blk, fun i z hz => (h.at_ i z hz).imp (fun b _ hb => ⟨Nat.le_trans hB hb.1, hb.2⟩)⟩
theorem Zo.toZs (h : Zo B t w g zs) (hn : zs.length ≤ 100) : Zs (fun b => B ≤ b) w (some ⟨g, 0, none⟩) zs.length zs.length zs :=
  ⟨rfl, Nat.le_refl _, by omega, fun _ => ⟨g, 0, rfl, h.base, h.lt, fun i z hz => by
    rw [Nat.zero_add]
    exact (h.at_ i z hz).imp (fun b _ hb => hb.1)⟩⟩
theorem Zo.below {Bw : Nat} (h : Zo B t w g zs) (hb : Below Bw w w') (hB : w.heap.size ≤ Bw) : Zo B t w' g zs := by
  obtain ⟨vs, hv, hk⟩ := h.blk
  have hg := hk.lt
  refine ⟨h.base, ⟨vs, hv, hk.below hb (by omega)⟩, fun i z hz => ?_⟩
  obtain ⟨A, c, h0, h1, h2, h3, hS, hA⟩ := h.at_ i z hz
  have hx : ∀ p : Addr, p.block < w.heap.size → w'.cell? p = w.cell? p := fun p hp => hb.cell (by omega)
  refine ⟨A, c, (hx ⟨g, i * 4, none⟩ hg).trans h0, (hx ⟨g, i * 4 + 1, none⟩ hg).trans h1, (hx ⟨g, i * 4 + 2, none⟩ hg).trans h2, (hx ⟨g, i * 4 + 3, none⟩ hg).trans h3, hS.keep hb.size hx, hA⟩
theorem Zo.under (h : Zo B t w g zs) (hb : Below w.heap.size w w') : Zo B t w' g zs := h.below hb (Nat.le_refl _)
theorem Zo.alloc (h : Zo B t w g zs) (o : Obj) : Zo B t (w.alloc o) g zs := h.under ((Below.refl _ _).alloc (Nat.le_refl _) o)
/-- A store into another block, below B or new since. -/
theorem Zo.far (h : Zo B t w g zs) {a : Addr} (ha : a.block < B) (u : Value) : Zo B t (w.setCell a u) g zs := by
  obtain ⟨vs, hv, hk⟩ := h.blk
  have hbase := h.base
  refine ⟨h.base, ⟨vs, hv, hk.far (by omega) u⟩, fun i z hz => ?_⟩
  obtain ⟨A, c, h0, h1, h2, h3, hS, hA⟩ := h.at_ i z hz
  have hx : ∀ j, (w.setCell a u).cell? ⟨g, j, none⟩ = w.cell? ⟨g, j, none⟩ := fun j => cell_far w u (show g ≠ a.block by omega)
  refine ⟨A, c, (hx _).trans h0, (hx _).trans h1, (hx _).trans h2, (hx _).trans h3, ⟨hS.len, hS.cap, hS.big, fun hn => ?_⟩, hA⟩
  obtain ⟨ad, e, hb, hc⟩ := hS.cells hn
  have := (hA hn ad e).1
  exact ⟨ad, e, by simpa [World.setCell] using hb, fun j v hv => (cell_far w u (by rw [add_block]; omega)).trans (hc j v hv)⟩
/-- Zone k of them: its cells, and that they may be written. -/
theorem Zo.cells (h : Zo B t w g zs) {k : Nat} (hk : k < zs.length) : (∃ a b c d, w.cell? ⟨g, k * 4, none⟩ = some a ∧ w.cell? ⟨g, k * 4 + 1, none⟩ = some b ∧ w.cell? ⟨g, k * 4 + 2, none⟩ = some c ∧ w.cell? ⟨g, k * 4 + 3, none⟩ = some d) ∧
    w.frozen? ⟨g, k * 4, none⟩ = false ∧ w.frozen? ⟨g, k * 4 + 1, none⟩ = false ∧ w.frozen? ⟨g, k * 4 + 2, none⟩ = false ∧ w.frozen? ⟨g, k * 4 + 3, none⟩ = false := by
  obtain ⟨vs, _, hb⟩ := h.blk
  obtain ⟨A, c, h0, h1, h2, h3, _⟩ := h.at_ k _ (List.getElem?_eq_getElem hk)
  exact ⟨⟨_, _, _, _, h0, h1, h2, h3⟩, hb.frozen _, hb.frozen _, hb.frozen _, hb.frozen _⟩
theorem cell_set {k i j : Nat} {vs : Array Value} {u : Value} (h : Blk w k vs t) (hi : i < vs.size) : (w.setCell ⟨k, i, none⟩ u).cell? ⟨k, j, none⟩ = if i = j then some u else w.cell? ⟨k, j, none⟩ := by
  rw [(h.set i u).cell j, h.cell j, Array.getElem?_setIfInBounds]
  by_cases e : i = j
  · rw [if_pos e, if_pos e, if_pos hi]
  · rw [if_neg e, if_neg e]
/-- The store of a zone at place k. -/
theorem Zo.set (h : Zo B t w g zs) {k : Nat} (hk : k < zs.length) {A : Option Addr} {c : Nat} (z : Zp) (hS : Sl w A z.l.length c (z.l.map v8)) (hA : 0 < z.l.length → ∀ ad, A = some ad → B ≤ ad.block ∧ ad.block ≠ g) :
    Zo B t ((((w.setCell ⟨g, k * 4, none⟩ (.int .i64 z.st)).setCell ⟨g, k * 4 + 1, none⟩ (.int .i64 z.rs)).setCell ⟨g, k * 4 + 2, none⟩ (.slice A z.l.length c)).setCell ⟨g, k * 4 + 3, none⟩ (.int .i64 z.la)) g (zs.set k z) := by
  obtain ⟨vs, hv, hb⟩ := h.blk
  have b1 := hb.set (k * 4) (.int .i64 z.st)
  have b2 := b1.set (k * 4 + 1) (.int .i64 z.rs)
  have b3 := b2.set (k * 4 + 2) (.slice A z.l.length c)
  have b4 := b3.set (k * 4 + 3) (.int .i64 z.la)
  have hx : ∀ j, ((((w.setCell ⟨g, k * 4, none⟩ (.int .i64 z.st)).setCell ⟨g, k * 4 + 1, none⟩ (.int .i64 z.rs)).setCell ⟨g, k * 4 + 2, none⟩ (.slice A z.l.length c)).setCell ⟨g, k * 4 + 3, none⟩ (.int .i64 z.la)).cell? ⟨g, j, none⟩ =
      if k * 4 + 3 = j then some (.int .i64 z.la) else if k * 4 + 2 = j then some (.slice A z.l.length c) else if k * 4 + 1 = j then some (.int .i64 z.rs) else if k * 4 = j then some (.int .i64 z.st) else w.cell? ⟨g, j, none⟩ := fun j => by
    rw [cell_set b3 (by simp; omega), cell_set b2 (by simp; omega), cell_set b1 (by simp; omega), cell_set hb (by omega)]
  have hy : ∀ p : Addr, p.block ≠ g → ((((w.setCell ⟨g, k * 4, none⟩ (.int .i64 z.st)).setCell ⟨g, k * 4 + 1, none⟩ (.int .i64 z.rs)).setCell ⟨g, k * 4 + 2, none⟩ (.slice A z.l.length c)).setCell ⟨g, k * 4 + 3, none⟩ (.int .i64 z.la)).cell? p = w.cell? p := fun p hp => by
    rw [cell_far _ _ hp, cell_far _ _ hp, cell_far _ _ hp, cell_far _ _ hp]
  have hz : w.heap.size ≤ ((((w.setCell ⟨g, k * 4, none⟩ (.int .i64 z.st)).setCell ⟨g, k * 4 + 1, none⟩ (.int .i64 z.rs)).setCell ⟨g, k * 4 + 2, none⟩ (.slice A z.l.length c)).setCell ⟨g, k * 4 + 3, none⟩ (.int .i64 z.la)).heap.size := by simp [World.setCell]
  generalize ((((w.setCell ⟨g, k * 4, none⟩ (.int .i64 z.st)).setCell ⟨g, k * 4 + 1, none⟩ (.int .i64 z.rs)).setCell ⟨g, k * 4 + 2, none⟩ (.slice A z.l.length c)).setCell ⟨g, k * 4 + 3, none⟩ (.int .i64 z.la)) = w4 at *
  have hkeep : ∀ {A' : Option Addr} {n' c' : Nat} {xs : List Value}, Sl w A' n' c' xs → (0 < n' → ∀ ad, A' = some ad → B ≤ ad.block ∧ ad.block ≠ g) → Sl w4 A' n' c' xs := fun hS hA => ⟨hS.len, hS.cap, hS.big, fun hn => by
    obtain ⟨ad, e, hb, hc⟩ := hS.cells hn
    exact ⟨ad, e, by omega, fun j u hu => (hy _ (by rw [add_block]; exact (hA hn ad e).2)).trans (hc j u hu)⟩⟩
  refine ⟨h.base, ⟨_, by simpa using hv, b4⟩, fun i zi hi => ?_⟩
  rw [List.getElem?_set] at hi
  by_cases hki : k = i
  · subst hki
    rw [if_pos rfl, if_pos hk] at hi
    cases hi
    exact ⟨A, c, by rw [hx]; simp, by rw [hx]; simp, by rw [hx]; simp, by rw [hx]; simp, hkeep hS hA, hA⟩
  · rw [if_neg hki] at hi
    obtain ⟨A', c', h0, h1, h2, h3, hS', hA'⟩ := h.at_ i zi hi
    have hq : ∀ j, j < 4 → w4.cell? ⟨g, i * 4 + j, none⟩ = w.cell? ⟨g, i * 4 + j, none⟩ := fun j hj => by
      rw [hx, if_neg (by omega), if_neg (by omega), if_neg (by omega), if_neg (by omega)]
    exact ⟨A', c', (hq 0 (by omega)).trans h0, (hq 1 (by omega)).trans h1, (hq 2 (by omega)).trans h2, (hq 3 (by omega)).trans h3, hkeep hS' hA', hA'⟩
end
/-- The same, in blocks that meet F. -/
structure Zf (F : Nat → Prop) (t : TypeId) (w : World) (g : Nat) (zs : List Zp) : Prop where
  base : F g
  blk : ∃ vs : Array Value, vs.size = zs.length * 4 ∧ Blk w g vs t
  at_ : ∀ i z, zs[i]? = some z → ZAt (fun b => F b ∧ b ≠ g) w g (i * 4) z
section
variable {F : Nat → Prop} {t : TypeId} {w w' : World} {g : Nat} {zs : List Zp}
theorem Zf.lt (h : Zf F t w g zs) : g < w.heap.size := by
  obtain ⟨vs, _, hb⟩ := h.blk
  exact hb.lt
theorem Zf.imp {F' : Nat → Prop} (h : Zf F t w g zs) (hF : ∀ b, b < w.heap.size → F b → F' b) : Zf F' t w g zs :=
  ⟨hF g h.lt h.base, h.blk, fun i z hz => (h.at_ i z hz).imp (fun b hb hh => ⟨hF b hb hh.1, hh.2⟩)⟩
theorem Zf.toZs (h : Zf F t w g zs) (hn : zs.length ≤ 100) : Zs F w (some ⟨g, 0, none⟩) zs.length zs.length zs :=
  ⟨rfl, Nat.le_refl _, by omega, fun _ => ⟨g, 0, rfl, h.base, h.lt, fun i z hz => by
    rw [Nat.zero_add]
    exact (h.at_ i z hz).imp (fun b _ hb => hb.1)⟩⟩
theorem Zf.below {Bw : Nat} (h : Zf F t w g zs) (hb : Below Bw w w') (hB : w.heap.size ≤ Bw) : Zf F t w' g zs := by
  obtain ⟨vs, hv, hk⟩ := h.blk
  have hg := hk.lt
  refine ⟨h.base, ⟨vs, hv, hk.below hb (by omega)⟩, fun i z hz => ?_⟩
  obtain ⟨A, c, h0, h1, h2, h3, hS, hA⟩ := h.at_ i z hz
  have hx : ∀ p : Addr, p.block < w.heap.size → w'.cell? p = w.cell? p := fun p hp => hb.cell (by omega)
  refine ⟨A, c, (hx ⟨g, i * 4, none⟩ hg).trans h0, (hx ⟨g, i * 4 + 1, none⟩ hg).trans h1, (hx ⟨g, i * 4 + 2, none⟩ hg).trans h2, (hx ⟨g, i * 4 + 3, none⟩ hg).trans h3, hS.keep hb.size hx, hA⟩
theorem Zf.under (h : Zf F t w g zs) (hb : Below w.heap.size w w') : Zf F t w' g zs := h.below hb (Nat.le_refl _)
theorem Zf.alloc (h : Zf F t w g zs) (o : Obj) : Zf F t (w.alloc o) g zs := h.under ((Below.refl _ _).alloc (Nat.le_refl _) o)
/-- A store into a block that does not meet F. -/
theorem Zf.far (h : Zf F t w g zs) {a : Addr} (ha : ¬ F a.block) (u : Value) : Zf F t (w.setCell a u) g zs := by
  obtain ⟨vs, hv, hk⟩ := h.blk
  have hbase := h.base
  have hga : g ≠ a.block := fun e => ha (e ▸ hbase)
  refine ⟨h.base, ⟨vs, hv, hk.far hga u⟩, fun i z hz => ?_⟩
  obtain ⟨A, c, h0, h1, h2, h3, hS, hA⟩ := h.at_ i z hz
  have hx : ∀ j, (w.setCell a u).cell? ⟨g, j, none⟩ = w.cell? ⟨g, j, none⟩ := fun j => cell_far w u hga
  exact ⟨A, c, (hx _).trans h0, (hx _).trans h1, (hx _).trans h2, (hx _).trans h3, hS.farz (fun hn ad e hh => ha (hh ▸ (hA hn ad e).1)) u, hA⟩
/-- Zone k of them: its cells, and that they may be written. -/
theorem Zf.cells (h : Zf F t w g zs) {k : Nat} (hk : k < zs.length) : (∃ a b c d, w.cell? ⟨g, k * 4, none⟩ = some a ∧ w.cell? ⟨g, k * 4 + 1, none⟩ = some b ∧ w.cell? ⟨g, k * 4 + 2, none⟩ = some c ∧ w.cell? ⟨g, k * 4 + 3, none⟩ = some d) ∧
    w.frozen? ⟨g, k * 4, none⟩ = false ∧ w.frozen? ⟨g, k * 4 + 1, none⟩ = false ∧ w.frozen? ⟨g, k * 4 + 2, none⟩ = false ∧ w.frozen? ⟨g, k * 4 + 3, none⟩ = false := by
  obtain ⟨vs, _, hb⟩ := h.blk
  obtain ⟨A, c, h0, h1, h2, h3, _⟩ := h.at_ k _ (List.getElem?_eq_getElem hk)
  exact ⟨⟨_, _, _, _, h0, h1, h2, h3⟩, hb.frozen _, hb.frozen _, hb.frozen _, hb.frozen _⟩
/-- The store of a zone at place k. -/
theorem Zf.set (h : Zf F t w g zs) {k : Nat} (hk : k < zs.length) {A : Option Addr} {c : Nat} (z : Zp) (hS : Sl w A z.l.length c (z.l.map v8)) (hA : 0 < z.l.length → ∀ ad, A = some ad → F ad.block ∧ ad.block ≠ g) :
    Zf F t ((((w.setCell ⟨g, k * 4, none⟩ (.int .i64 z.st)).setCell ⟨g, k * 4 + 1, none⟩ (.int .i64 z.rs)).setCell ⟨g, k * 4 + 2, none⟩ (.slice A z.l.length c)).setCell ⟨g, k * 4 + 3, none⟩ (.int .i64 z.la)) g (zs.set k z) := by
  obtain ⟨vs, hv, hb⟩ := h.blk
  have b1 := hb.set (k * 4) (.int .i64 z.st)
  have b2 := b1.set (k * 4 + 1) (.int .i64 z.rs)
  have b3 := b2.set (k * 4 + 2) (.slice A z.l.length c)
  have b4 := b3.set (k * 4 + 3) (.int .i64 z.la)
  have hx : ∀ j, ((((w.setCell ⟨g, k * 4, none⟩ (.int .i64 z.st)).setCell ⟨g, k * 4 + 1, none⟩ (.int .i64 z.rs)).setCell ⟨g, k * 4 + 2, none⟩ (.slice A z.l.length c)).setCell ⟨g, k * 4 + 3, none⟩ (.int .i64 z.la)).cell? ⟨g, j, none⟩ =
      if k * 4 + 3 = j then some (.int .i64 z.la) else if k * 4 + 2 = j then some (.slice A z.l.length c) else if k * 4 + 1 = j then some (.int .i64 z.rs) else if k * 4 = j then some (.int .i64 z.st) else w.cell? ⟨g, j, none⟩ := fun j => by
    rw [cell_set b3 (by simp; omega), cell_set b2 (by simp; omega), cell_set b1 (by simp; omega), cell_set hb (by omega)]
  have hy : ∀ p : Addr, p.block ≠ g → ((((w.setCell ⟨g, k * 4, none⟩ (.int .i64 z.st)).setCell ⟨g, k * 4 + 1, none⟩ (.int .i64 z.rs)).setCell ⟨g, k * 4 + 2, none⟩ (.slice A z.l.length c)).setCell ⟨g, k * 4 + 3, none⟩ (.int .i64 z.la)).cell? p = w.cell? p := fun p hp => by
    rw [cell_far _ _ hp, cell_far _ _ hp, cell_far _ _ hp, cell_far _ _ hp]
  have hz : w.heap.size ≤ ((((w.setCell ⟨g, k * 4, none⟩ (.int .i64 z.st)).setCell ⟨g, k * 4 + 1, none⟩ (.int .i64 z.rs)).setCell ⟨g, k * 4 + 2, none⟩ (.slice A z.l.length c)).setCell ⟨g, k * 4 + 3, none⟩ (.int .i64 z.la)).heap.size := by simp [World.setCell]
  generalize ((((w.setCell ⟨g, k * 4, none⟩ (.int .i64 z.st)).setCell ⟨g, k * 4 + 1, none⟩ (.int .i64 z.rs)).setCell ⟨g, k * 4 + 2, none⟩ (.slice A z.l.length c)).setCell ⟨g, k * 4 + 3, none⟩ (.int .i64 z.la)) = w4 at *
  have hkeep : ∀ {A' : Option Addr} {n' c' : Nat} {xs : List Value}, Sl w A' n' c' xs → (0 < n' → ∀ ad, A' = some ad → F ad.block ∧ ad.block ≠ g) → Sl w4 A' n' c' xs := fun hS hA => ⟨hS.len, hS.cap, hS.big, fun hn => by
    obtain ⟨ad, e, hb, hc⟩ := hS.cells hn
    exact ⟨ad, e, by omega, fun j u hu => (hy _ (by rw [add_block]; exact (hA hn ad e).2)).trans (hc j u hu)⟩⟩
  refine ⟨h.base, ⟨_, by simpa using hv, b4⟩, fun i zi hi => ?_⟩
  rw [List.getElem?_set] at hi
  by_cases hki : k = i
  · subst hki
    rw [if_pos rfl, if_pos hk] at hi
    cases hi
    exact ⟨A, c, by rw [hx]; simp, by rw [hx]; simp, by rw [hx]; simp, by rw [hx]; simp, hkeep hS hA, hA⟩
  · rw [if_neg hki] at hi
    obtain ⟨A', c', h0, h1, h2, h3, hS', hA'⟩ := h.at_ i zi hi
    have hq : ∀ j, j < 4 → w4.cell? ⟨g, i * 4 + j, none⟩ = w.cell? ⟨g, i * 4 + j, none⟩ := fun j hj => by
      rw [hx, if_neg (by omega), if_neg (by omega), if_neg (by omega), if_neg (by omega)]
    exact ⟨A', c', (hq 0 (by omega)).trans h0, (hq 1 (by omega)).trans h1, (hq 2 (by omega)).trans h2, (hq 3 (by omega)).trans h3, hkeep hS' hA', hA'⟩
theorem Zo.toZf {B : Nat} (h : Zo B t w g zs) {F : Nat → Prop} (hF : ∀ b, b < w.heap.size → B ≤ b → F b) : Zf F t w g zs :=
  ⟨hF g h.lt h.base, h.blk, fun i z hz => (h.at_ i z hz).imp (fun b hb hh => ⟨hF b hb hh.1, hh.2⟩)⟩
theorem Zf.toZo {B : Nat} (h : Zf F t w g zs) (hF : ∀ b, b < w.heap.size → F b → B ≤ b) : Zo B t w g zs :=
  ⟨hF g h.lt h.base, h.blk, fun i z hz => (h.at_ i z hz).imp (fun b hb hh => ⟨hF b hb hh.1, hh.2⟩)⟩
end
section
variable {B : Nat} {t : TypeId} {w w' : World} {g : Nat} {zs : List Zp}
/-- A zone of no bytes. -/
def zero4 : Zp := ⟨0, 0, 0, []⟩
theorem Zo.made (w : World) (n : Nat) (t : TypeId) :
    Zo w.heap.size t (w.alloc (.cells (madeCells #[.int .i64 0, .int .i64 0, .slice none 0 0, .int .i64 0] (n * 4)) t)) w.heap.size (List.replicate n zero4) := by
  have hb := Blk.new w (madeCells #[.int .i64 0, .int .i64 0, .slice none 0 0, .int .i64 0] (n * 4)) t
  refine ⟨Nat.le_refl _, ⟨_, by simp [size_madeCells], hb⟩, fun i z hi => ?_⟩
  rw [List.getElem?_replicate] at hi
  split at hi
  · rename_i hin
    cases hi
    have hx : ∀ j, j < 4 → (w.alloc (.cells (madeCells #[.int .i64 0, .int .i64 0, .slice none 0 0, .int .i64 0] (n * 4)) t)).cell? ⟨w.heap.size, i * 4 + j, none⟩ = (#[Value.int .i64 0, .int .i64 0, .slice none 0 0, .int .i64 0] : Array Value)[j]? := fun j hj => by
      rw [hb.cell]
      have e : (i * 4 + j) % 4 = j := by omega
      simp only [madeCells, Array.getElem?_map]
      rw [Array.getElem?_range, if_pos (by omega)]
      simp only [Option.map_some]
      show some ((#[Value.int .i64 0, .int .i64 0, .slice none 0 0, .int .i64 0] : Array Value)[(i * 4 + j) % 4]!) = _
      rw [e]
      rcases j with _ | _ | _ | _ | j
      all_goals first | rfl | omega
    exact ⟨none, 0, hx 0 (by omega), hx 1 (by omega), hx 2 (by omega), hx 3 (by omega), Sl.nil _, fun h => absurd h (by simp [zero4])⟩
  · cases hi
theorem Zo.made_at (w : World) (n : Nat) (t : TypeId) (g : Nat) (hg : w.heap.size = g) (B : Nat) (hB : B ≤ g) :
    Zo B t (w.alloc (.cells (madeCells #[.int .i64 0, .int .i64 0, .slice none 0 0, .int .i64 0] (n * 4)) t)) g (List.replicate n zero4) := by
  subst hg
  exact (Zo.made w n t).mono hB
end
end Go.Wag
