/-
  The document's Copy of a device (written by gen_ref4a.py).
-/
import Derived.Test.YtnjekhnheihooaaZoneRef3
import Derived.Test.YtnjekhnheihooaaDev9
import Derived.Test.YtnjekhnheihooaaDevPure
import Derived.Maps.AppendAt
namespace Go.Wag
open Go.RowKit
set_option linter.unusedVariables false
/-- A row of zones of one's own with room behind it, in blocks that meet F. -/
structure Zr (F : Nat → Prop) (t : TypeId) (w : World) (g : Nat) (zs : List Zp) : Prop where
  base : F g
  blk : ∃ vs : Array Value, zs.length * 4 ≤ vs.size ∧ Blk w g vs t
  at_ : ∀ i z, zs[i]? = some z → ZAt (fun b => F b ∧ b ≠ g) w g (i * 4) z
section
variable {F : Nat → Prop} {t : TypeId} {w w' : World} {g : Nat} {zs : List Zp}
theorem Zr.lt (h : Zr F t w g zs) : g < w.heap.size := by
  obtain ⟨vs, _, hb⟩ := h.blk
  exact hb.lt
theorem Zr.imp {F' : Nat → Prop} (h : Zr F t w g zs) (hF : ∀ b, b < w.heap.size → F b → F' b) : Zr F' t w g zs :=
  ⟨hF g h.lt h.base, h.blk, fun i z hz => (h.at_ i z hz).imp (fun b hb hh => ⟨hF b hb hh.1, hh.2⟩)⟩
theorem Zr.toZs (h : Zr F t w g zs) (hn : zs.length ≤ 100) : Zs F w (some ⟨g, 0, none⟩) zs.length zs.length zs :=
  ⟨rfl, Nat.le_refl _, by omega, fun _ => ⟨g, 0, rfl, h.base, h.lt, fun i z hz => by
    rw [Nat.zero_add]
    exact (h.at_ i z hz).imp (fun b _ hb => hb.1)⟩⟩
theorem Zr.below {Bw : Nat} (h : Zr F t w g zs) (hb : Below Bw w w') (hB : w.heap.size ≤ Bw) : Zr F t w' g zs := by
  obtain ⟨vs, hv, hk⟩ := h.blk
  have hg := hk.lt
  refine ⟨h.base, ⟨vs, hv, hk.below hb (by omega)⟩, fun i z hz => ?_⟩
  obtain ⟨A, c, h0, h1, h2, h3, hS, hA⟩ := h.at_ i z hz
  have hx : ∀ p : Addr, p.block < w.heap.size → w'.cell? p = w.cell? p := fun p hp => hb.cell (by omega)
  refine ⟨A, c, (hx ⟨g, i * 4, none⟩ hg).trans h0, (hx ⟨g, i * 4 + 1, none⟩ hg).trans h1, (hx ⟨g, i * 4 + 2, none⟩ hg).trans h2, (hx ⟨g, i * 4 + 3, none⟩ hg).trans h3, hS.keep hb.size hx, hA⟩
theorem Zr.under (h : Zr F t w g zs) (hb : Below w.heap.size w w') : Zr F t w' g zs := h.below hb (Nat.le_refl _)
theorem Zr.alloc (h : Zr F t w g zs) (o : Obj) : Zr F t (w.alloc o) g zs := h.under ((Below.refl _ _).alloc (Nat.le_refl _) o)
/-- A store into a block that does not meet F. -/
theorem Zr.far (h : Zr F t w g zs) {a : Addr} (ha : ¬ F a.block) (u : Value) : Zr F t (w.setCell a u) g zs := by
  obtain ⟨vs, hv, hk⟩ := h.blk
  have hbase := h.base
  have hga : g ≠ a.block := fun e => ha (e ▸ hbase)
  refine ⟨h.base, ⟨vs, hv, hk.far hga u⟩, fun i z hz => ?_⟩
  obtain ⟨A, c, h0, h1, h2, h3, hS, hA⟩ := h.at_ i z hz
  have hx : ∀ j, (w.setCell a u).cell? ⟨g, j, none⟩ = w.cell? ⟨g, j, none⟩ := fun j => cell_far w u hga
  exact ⟨A, c, (hx _).trans h0, (hx _).trans h1, (hx _).trans h2, (hx _).trans h3, hS.farz (fun hn ad e hh => ha (hh ▸ (hA hn ad e).1)) u, hA⟩
/-- Zone k of them: its cells, and that they may be written. -/
theorem Zr.cells (h : Zr F t w g zs) {k : Nat} (hk : k < zs.length) : (∃ a b c d, w.cell? ⟨g, k * 4, none⟩ = some a ∧ w.cell? ⟨g, k * 4 + 1, none⟩ = some b ∧ w.cell? ⟨g, k * 4 + 2, none⟩ = some c ∧ w.cell? ⟨g, k * 4 + 3, none⟩ = some d) ∧
    w.frozen? ⟨g, k * 4, none⟩ = false ∧ w.frozen? ⟨g, k * 4 + 1, none⟩ = false ∧ w.frozen? ⟨g, k * 4 + 2, none⟩ = false ∧ w.frozen? ⟨g, k * 4 + 3, none⟩ = false := by
  obtain ⟨vs, _, hb⟩ := h.blk
  obtain ⟨A, c, h0, h1, h2, h3, _⟩ := h.at_ k _ (List.getElem?_eq_getElem hk)
  exact ⟨⟨_, _, _, _, h0, h1, h2, h3⟩, hb.frozen _, hb.frozen _, hb.frozen _, hb.frozen _⟩
/-- The store of a zone at place k. -/
theorem Zr.set (h : Zr F t w g zs) {k : Nat} (hk : k < zs.length) {A : Option Addr} {c : Nat} (z : Zp) (hS : Sl w A z.l.length c (z.l.map v8)) (hA : 0 < z.l.length → ∀ ad, A = some ad → F ad.block ∧ ad.block ≠ g) :
    Zr F t ((((w.setCell ⟨g, k * 4, none⟩ (.int .i64 z.st)).setCell ⟨g, k * 4 + 1, none⟩ (.int .i64 z.rs)).setCell ⟨g, k * 4 + 2, none⟩ (.slice A z.l.length c)).setCell ⟨g, k * 4 + 3, none⟩ (.int .i64 z.la)) g (zs.set k z) := by
  obtain ⟨vs, hv, hb⟩ := h.blk
  have b1 := hb.set (k * 4) (.int .i64 z.st)
  have b2 := b1.set (k * 4 + 1) (.int .i64 z.rs)
  have b3 := b2.set (k * 4 + 2) (.slice A z.l.length c)
  have b4 := b3.set (k * 4 + 3) (.int .i64 z.la)
  have hx : ∀ j, ((((w.setCell ⟨g, k * 4, none⟩ (.int .i64 z.st)).setCell ⟨g, k * 4 + 1, none⟩ (.int .i64 z.rs)).setCell ⟨g, k * 4 + 2, none⟩ (.slice A z.l.length c)).setCell ⟨g, k * 4 + 3, none⟩ (.int .i64 z.la)).cell? ⟨g, j, none⟩ =
      if k * 4 + 3 = j then some (.int .i64 z.la) else if k * 4 + 2 = j then some (.slice A z.l.length c) else if k * 4 + 1 = j then some (.int .i64 z.rs) else if k * 4 = j then some (.int .i64 z.st) else w.cell? ⟨g, j, none⟩ := fun j => by
    rw [cell_set b3 (by simp; omega), cell_set b2 (by simp; omega), cell_set b1 (by simp; omega), cell_set hb (by omega)]
  have hy : ∀ p : Addr, p.block ≠ g → ((((w.setCell ⟨g, k * 4, none⟩ (.int .i64 z.st)).setCell ⟨g, k * 4 + 1, none⟩ (.int .i64 z.rs)).setCell ⟨g, k * 4 + 2, none⟩ (.slice A z.l.length c)).setCell ⟨g, k * 4 + 3, none⟩ (.int .i64 z.la)).cell? p = w.cell? p := fun p hp => by
    rw [cell_far _ _ hp, cell_far _ _ hp, cell_far _ _ hp, cell_far _ _ hp]
  have hz : w.heap.size ≤ ((((w.setCell ⟨g, k * 4, none⟩ (.int .i64 z.st)).setCell ⟨g, k * 4 + 1, none⟩ (.int .i64 z.rs)).setCell ⟨g, k * 4 + 2, none⟩ (.slice A z.l.length c)).setCell ⟨g, k * 4 + 3, none⟩ (.int .i64 z.la)).heap.size := by simp [World.setCell]
  generalize ((((w.setCell ⟨g, k * 4, none⟩ (.int .i64 z.st)).setCell ⟨g, k * 4 + 1, none⟩ (.int .i64 z.rs)).setCell ⟨g, k * 4 + 2, none⟩ (.slice A z.l.length c)).setCell ⟨g, k * 4 + 3, none⟩ (.int .i64 z.la)) = w4 at *
  have hkeep : ∀ {A' : Option Addr} {n' c' : Nat} {xs : List Value}, Sl w A' n' c' xs → (0 < n' → ∀ ad, A' = some ad → F ad.block ∧ ad.block ≠ g) → Sl w4 A' n' c' xs := fun hS hA => ⟨hS.len, hS.cap, hS.big, fun hn => by
    obtain ⟨ad, e, hb, hc⟩ := hS.cells hn
    exact ⟨ad, e, by omega, fun j u hu => (hy _ (by rw [add_block]; exact (hA hn ad e).2)).trans (hc j u hu)⟩⟩
  refine ⟨h.base, ⟨_, by simpa using hv, b4⟩, fun i zi hi => ?_⟩
  rw [List.getElem?_set] at hi
  by_cases hki : k = i
  · subst hki
    rw [if_pos rfl, if_pos hk] at hi
    cases hi
    exact ⟨A, c, by rw [hx]; simp, by rw [hx]; simp, by rw [hx]; simp, by rw [hx]; simp, hkeep hS hA, hA⟩
  · rw [if_neg hki] at hi
    obtain ⟨A', c', h0, h1, h2, h3, hS', hA'⟩ := h.at_ i zi hi
    have hq : ∀ j, j < 4 → w4.cell? ⟨g, i * 4 + j, none⟩ = w.cell? ⟨g, i * 4 + j, none⟩ := fun j hj => by
      rw [hx, if_neg (by omega), if_neg (by omega), if_neg (by omega), if_neg (by omega)]
    exact ⟨A', c', (hq 0 (by omega)).trans h0, (hq 1 (by omega)).trans h1, (hq 2 (by omega)).trans h2, (hq 3 (by omega)).trans h3, hkeep hS' hA', hA'⟩
end
end Go.Wag
namespace Go.Proofs.Ytnjekhnheihooaa
open Go.RowKit Go.Wag
set_option linter.unusedVariables false

/-- A row of zones that is appended to: cells and bytes of one's own, from block B on. -/
structure Zq (B : Nat) (w : World) (A : Option Addr) (n c : Nat) (zs : List Zp) : Prop where
  len : zs.length = n
  row : ∃ xs, w.ownsRow B 46 4 (.slice A n c) n xs ∧ ∀ i z, zs[i]? = some z → ∃ Ai ci, xs[i * 4]? = some (.int .i64 z.st) ∧ xs[i * 4 + 1]? = some (.int .i64 z.rs) ∧ xs[i * 4 + 2]? = some (.slice Ai z.l.length ci) ∧ xs[i * 4 + 3]? = some (.int .i64 z.la) ∧ w.ownsRow B 5 1 (.slice Ai z.l.length ci) z.l.length (z.l.map v8)
section
variable {B : Nat} {w w' : World} {A : Option Addr} {n c : Nat} {zs : List Zp}
theorem Zq.nil (B : Nat) (w : World) : Zq B w none 0 0 [] := ⟨rfl, [], World.ownsRow_nil _ _ _ _, fun i z h => by simp at h⟩
theorem row_apart {Ai : Option Addr} {m ci k : Nat} {xs ys : List Value} (h : w.ownsRow B 46 4 (.slice A n c) n xs) (hd : w.ownsRow B 5 1 (.slice Ai m ci) k ys) : (Value.slice Ai m ci).ownBlock = none ∨ (Value.slice Ai m ci).ownBlock ≠ (Value.slice A n c).ownBlock := by
  rcases hd.2 with ⟨hv, _⟩ | ⟨g, cap, cur, hv, _, hg, _⟩
  · exact .inl (by rw [hv]; rfl)
  · refine .inr (fun e => ?_)
    rw [hv] at e
    rcases h.2 with ⟨hv2, _⟩ | ⟨g2, cap2, cur2, hv2, _, hg2, _⟩
    · rw [hv2] at e
      cases e
    · rw [hv2] at e
      have e2 : g = g2 := by simpa [Value.ownBlock] using e
      subst e2
      rw [hg] at hg2
      cases hg2
theorem Zq.grown (h : Zq B w A n c zs) (hb : Below w.heap.size w w') : Zq B w' A n c zs := by
  obtain ⟨xs, hx, hz⟩ := h.row
  refine ⟨h.len, xs, hx.kept (only_of hb none) (by cases hv : Value.ownBlock (.slice A n c) <;> simp), fun i z hi => ?_⟩
  obtain ⟨Ai, ci, h0, h1, h2, h3, h4⟩ := hz i z hi
  exact ⟨Ai, ci, h0, h1, h2, h3, h4.kept (only_of hb none) (by cases hv : Value.ownBlock (.slice Ai z.l.length ci) <;> simp)⟩
theorem Zq.under (h : Zq B w A n c zs) (hb : Below w.heap.size w w') : Zq B w' A n c zs := h.grown hb
theorem Zq.drew (h : Zq B w A n c zs) : Zq B w.drew A n c zs := h.grown (Below.refl _ _).drew
theorem Zq.alloc (h : Zq B w A n c zs) (o : Obj) : Zq B (w.alloc o) A n c zs := h.grown ((Below.refl _ _).alloc (Nat.le_refl _) o)
theorem Zq.ge (h : Zq B w A n c zs) : ∀ b, (Value.slice A n c).ownBlock = some b → B ≤ b := fun b hb => by
  obtain ⟨xs, hx, _⟩ := h.row
  exact (hx.lt b hb).1
theorem own_far4 {e : TypeId} {size m k : Nat} {xs : List Value} {A : Option Addr} {c : Nat} (h : w.ownsRow B e size (.slice A m c) k xs) {a : Addr} (ha : a.block < B) (u : Value) : (w.setCell a u).ownsRow B e size (.slice A m c) k xs := by
  refine World.ownsRow.kept h (grown_set w a u) ?_
  cases hv : (Value.slice A m c).ownBlock with
  | none => exact .inl rfl
  | some b =>
    refine .inr (fun e => ?_)
    have := (h.lt b hv).1
    have e2 := Option.some.inj e
    omega
theorem Zq.far (h : Zq B w A n c zs) {a : Addr} (ha : a.block < B) (u : Value) : Zq B (w.setCell a u) A n c zs := by
  obtain ⟨xs, hx, hz⟩ := h.row
  refine ⟨h.len, xs, own_far4 hx ha u, fun i z hi => ?_⟩
  obtain ⟨Ai, ci, h0, h1, h2, h3, h4⟩ := hz i z hi
  exact ⟨Ai, ci, h0, h1, h2, h3, own_far4 h4 ha u⟩
theorem Zq.app (h : Zq B w A n c zs) (hB : B ≤ w.heap.size) (hn : n ≤ 100) (z : Zp) {A2 : Option Addr} {c2 s : Nat} (N : w.ownsRow B 5 1 (.slice A2 z.l.length c2) z.l.length (z.l.map v8)) (Bs : Blk w s #[.int .i64 z.st, .int .i64 z.rs, .slice A2 z.l.length c2, .int .i64 z.la] 46) :
    ∃ A' c' w', (Builtin.append_ #[23, 23] 23 #[.slice A n c, .slice (some ⟨s, 0, none⟩) 1 1]).run Try.prog w = .ok (.slice A' (n + 1) c') w' ∧ Zq B w' A' (n + 1) c' (zs ++ [z]) ∧ w.grownBy w' (Value.slice A n c).ownBlock := by
  obtain ⟨xs, hx, hz⟩ := h.row
  obtain ⟨i0, hi, hz0, hz1, hz2⟩ := info_parts i46
  obtain ⟨v', w', hr, h2, h3, _, h5⟩ := run_append_own_at (P := Try.prog) w B 23 23 46 i0 _ 4 48 Try.underlying23 hi hz0 hz1 hz2 rfl (by decide) (.slice A n c) n xs hx ⟨s, 0, none⟩ 1 1 [.int .i64 z.st, .int .i64 z.rs, .slice A2 z.l.length c2, .int .i64 z.la] rfl
    (fun j u hu => by
      have e : ((⟨s, 0, none⟩ : Addr).add j) = ⟨s, j, none⟩ := by unfold Addr.add; split <;> simp_all
      rw [e, Bs.cell]
      simpa using hu)
    (fun u hu => by
      simp only [List.mem_cons, List.not_mem_nil, or_false] at hu
      rcases hu with rfl | rfl | rfl | rfl <;> rfl) (by simp only [maxLen]; omega) (by omega) hB
  obtain ⟨A', c', rfl⟩ := own_form h2
  have hxl : xs.length = n * 4 := hx.1
  refine ⟨A', c', w', hr, ⟨by simp [h.len], _, h2, fun i x hi => ?_⟩, h3⟩
  have hl := h.len
  by_cases hin : i < n
  · rw [List.getElem?_append_left (by omega)] at hi
    obtain ⟨Ai, ci, h0, h1, h2, h3', h4⟩ := hz i x hi
    refine ⟨Ai, ci, ?_, ?_, ?_, ?_, h4.kept h3 (row_apart hx h4)⟩
    · rw [List.getElem?_append_left (by omega)]; exact h0
    · rw [List.getElem?_append_left (by omega)]; exact h1
    · rw [List.getElem?_append_left (by omega)]; exact h2
    · rw [List.getElem?_append_left (by omega)]; exact h3'
  · have hi2 := (List.getElem?_eq_some_iff.1 hi).1
    obtain rfl : i = n := by simp at hi2; omega
    rw [List.getElem?_append_right (by omega), hl, Nat.sub_self] at hi
    cases hi
    refine ⟨A2, c2, ?_, ?_, ?_, ?_, N.kept h3 (row_apart hx N)⟩
    · rw [List.getElem?_append_right (by omega), hxl, Nat.sub_self]; rfl
    · rw [List.getElem?_append_right (by omega), hxl, show i * 4 + 1 - i * 4 = 1 by omega]; rfl
    · rw [List.getElem?_append_right (by omega), hxl, show i * 4 + 2 - i * 4 = 2 by omega]; rfl
    · rw [List.getElem?_append_right (by omega), hxl, show i * 4 + 3 - i * 4 = 3 by omega]; rfl
theorem Zq.at4 {g : Nat} (h : Zq B w (some ⟨g, 0, none⟩) n c zs) (i : Nat) (z : Zp) (hi : zs[i]? = some z) : ZAt (fun b => B ≤ b ∧ b ≠ g) w g (i * 4) z := by
  obtain ⟨xs, hx, hz⟩ := h.row
  obtain ⟨Ai, ci, h0, h1, h2, h3, h4⟩ := hz i z hi
  have e : ∀ j, ((⟨g, 0, none⟩ : Addr).add j) = ⟨g, j, none⟩ := fun j => by unfold Addr.add; split <;> simp_all
  have hc := fun j u hu => (e j) ▸ hx.cells (g := g) rfl j u hu
  refine ⟨Ai, ci, hc _ _ h0, hc _ _ h1, hc _ _ h2, hc _ _ h3, Sl.of_own h4, fun hn ad hA => ?_⟩
  subst hA
  refine ⟨(h4.lt ad.block rfl).1, fun e => ?_⟩
  rcases row_apart hx h4 with h | h
  · cases h
  · exact h (by simp [Value.ownBlock, e])
theorem Zq.toZs (h : Zq B w A n c zs) : Zs (fun b => B ≤ b) w A n c zs := by
  obtain ⟨xs, hx, hz⟩ := id h.row
  rcases hx.2 with ⟨hv, rfl⟩ | ⟨g, cap, cur, hv, hB, hg, hnc, hm, _⟩
  · obtain ⟨rfl, -, rfl⟩ : A = none ∧ 0 = 0 ∧ c = 0 := by simpa using hv
    exact ⟨h.len, Nat.le_refl _, by omega, fun h => absurd h (by omega)⟩
  · obtain ⟨rfl, rfl⟩ : A = some ⟨g, 0, none⟩ ∧ c = cap := by simpa using hv
    exact ⟨h.len, hnc, by simpa [maxLen] using hm, fun _ => ⟨g, 0, rfl, hB, (Array.getElem?_eq_some_iff.1 hg).1, fun i z hi => by
      rw [Nat.zero_add]
      exact (h.at4 i z hi).imp (fun b _ hb => hb.1)⟩⟩
theorem Zq.toZr (h : Zq B w A n c zs) (hn : 0 < n) : ∃ g, A = some ⟨g, 0, none⟩ ∧ n ≤ c ∧ Zr (fun b => B ≤ b) 46 w g zs := by
  obtain ⟨xs, hx, hz⟩ := id h.row
  rcases hx.2 with ⟨hv, rfl⟩ | ⟨g, cap, cur, hv, hB, hg, hnc, hm, hcs, _⟩
  · omega
  · obtain ⟨rfl, rfl⟩ : A = some ⟨g, 0, none⟩ ∧ c = cap := by simpa using hv
    exact ⟨g, rfl, hnc, hB, ⟨cur, by rw [h.len, hcs]; omega, hg⟩, fun i z hi => h.at4 i z hi⟩
end

/-- The document's copy of a device: in memory of its own; where it has zones they may be written. -/
def CopyPost (w : World) (size lf dn : Int) (dw : Bool) (zs : List Zp) (m : Nat) (e : Ending) (w' : World) : Prop :=
  ∃ A c, e = .returned (.agg #[.int .i64 size, .slice A m c, .int .i64 lf, .bool dw, .int .i64 dn]) ∧ Zs (fun b => w.heap.size ≤ b) w' A m c zs ∧ (0 < m → ∃ g, A = some ⟨g, 0, none⟩ ∧ m ≤ c ∧ Zr (fun b => w.heap.size ≤ b) 46 w' g zs) ∧ Below w.heap.size w w'

set_option maxRecDepth 20000 in
set_option maxHeartbeats 4000000 in
theorem refCopy4_any {F : Nat → Prop} (size lf dn : Int) (dw : Bool) (A0 : Option Addr) (n c : Nat) (zs : List Zp) (w : World) (h : Zs F w A0 n c zs) (hsm : Sm zs) :
    Calls Try.prog 23 #[.agg #[.int .i64 size, .slice A0 n c, .int .i64 lf, .bool dw, .int .i64 dn]] w (CopyPost w size lf dn dw zs n) := by
  have hlen := h.len
  have hcap := h.cap
  have hn := hsm.1
  have Bd := ((Blk.new w #[.int .i64 size, .slice A0 n c, .int .i64 lf, .bool dw, .int .i64 dn] 25).alloc (.cells #[.int .i64 0, .slice none 0 0, .int .i64 0, .bool false, .int .i64 0] 25)).alloc (.cells #[.int .i64 size, .slice none 0 0, .int .i64 lf, .bool dw, .int .i64 dn] 25)
  have Br := (Blk.new (w.alloc (.cells #[.int .i64 size, .slice A0 n c, .int .i64 lf, .bool dw, .int .i64 dn] 25)) #[.int .i64 0, .slice none 0 0, .int .i64 0, .bool false, .int .i64 0] 25).alloc (.cells #[.int .i64 size, .slice none 0 0, .int .i64 lf, .bool dw, .int .i64 dn] 25)
  have Bo := Blk.new ((w.alloc (.cells #[.int .i64 size, .slice A0 n c, .int .i64 lf, .bool dw, .int .i64 dn] 25)).alloc (.cells #[.int .i64 0, .slice none 0 0, .int .i64 0, .bool false, .int .i64 0] 25)) #[.int .i64 size, .slice none 0 0, .int .i64 lf, .bool dw, .int .i64 dn] 25
  have bS := (((Below.refl w.heap.size w).alloc (Nat.le_refl _) (.cells #[.int .i64 size, .slice A0 n c, .int .i64 lf, .bool dw, .int .i64 dn] 25)).alloc (by simp) (.cells #[.int .i64 0, .slice none 0 0, .int .i64 0, .bool false, .int .i64 0] 25)).alloc (by simp; omega) (.cells #[.int .i64 size, .slice none 0 0, .int .i64 lf, .bool dw, .int .i64 dn] 25)
  have hs0 : (((w.alloc (.cells #[.int .i64 size, .slice A0 n c, .int .i64 lf, .bool dw, .int .i64 dn] 25)).alloc (.cells #[.int .i64 0, .slice none 0 0, .int .i64 0, .bool false, .int .i64 0] 25)).alloc (.cells #[.int .i64 size, .slice none 0 0, .int .i64 lf, .bool dw, .int .i64 dn] 25)).heap.size = w.heap.size + 3 := by simp
  simp only [World.size_alloc] at Br Bo
  go_enter Try.func23, Try.ntmps23
  go_wp2_with fail
  generalize (((w.alloc (.cells #[.int .i64 size, .slice A0 n c, .int .i64 lf, .bool dw, .int .i64 dn] 25)).alloc (.cells #[.int .i64 0, .slice none 0 0, .int .i64 0, .bool false, .int .i64 0] 25)).alloc (.cells #[.int .i64 size, .slice none 0 0, .int .i64 lf, .bool dw, .int .i64 dn] 25)) = w0 at *
  go_loopg [4] n (fun g i wr => ∃ k : Nat, k + g = n ∧ i = .int .i64 (k : Int) ∧ ∃ (A : Option Addr) (c0 : Nat), Blk wr (w.heap.size + 2) #[.int .i64 size, .slice A k c0, .int .i64 lf, .bool dw, .int .i64 dn] 25 ∧ Blk wr w.heap.size #[.int .i64 size, .slice A0 n c, .int .i64 lf, .bool dw, .int .i64 dn] 25 ∧ Blk wr (w.heap.size + 1) #[.int .i64 0, .slice none 0 0, .int .i64 0, .bool false, .int .i64 0] 25 ∧ Zq (w.heap.size + 3) wr A k c0 (zs.take k) ∧ Below w.heap.size w wr ∧ w.heap.size + 3 ≤ wr.heap.size)
  case atStart => exact ⟨0, by omega, rfl, none, 0, Bo, Bd, Br, Zq.nil _ _, bS, Nat.le_of_eq hs0.symm⟩
  case round =>
    clear Bo Bd Br bS hs0
    obtain ⟨k, hk, rfl, A, c0, Bo, Bd, Br, Q, bS, hBw⟩ := hrel
    obtain ⟨p0, p1, p2, p3, p4, _⟩ := Bd.five
    by_cases hlt : (k : Int) < (n : Int)
    · obtain ⟨g, rfl⟩ : ∃ g, gk = g + 1 := ⟨gk - 1, by omega⟩
      obtain ⟨gb, o, z, Ai, ci, rfl, hF, hg, hz, c0', c1', c2', c3', hS, hA⟩ := h.at_ (show k < n by omega)
      have hzl := hsm.at_ hz
      have hk1 : Hid (zs.take (k + 1) = zs.take k ++ [z]) := by
        show _ = _
        rw [List.take_add_one, hz]; rfl
      replace hk : Hid _ := hk
      clear hz
      go_wp2_with fail
      clear p0 p1 p2 p3 p4
      refine wp_region_held_drew (S := fun w' => Below w.heap.size w w' ∧ Blk w' w.heap.size #[.int .i64 size, .slice (some ⟨gb, o, none⟩) n c, .int .i64 lf, .bool dw, .int .i64 dn] 25 ∧ Blk w' (w.heap.size + 1) #[.int .i64 0, .slice none 0 0, .int .i64 0, .bool false, .int .i64 0] 25) (by kernel_rfl) ⟨bS.drew, Bd, Br⟩ (fun hHeld => ?_)
      replace Bd := hHeld.2.1
      replace Br := hHeld.2.2
      replace bS := hHeld.1
      replace Bo : Blk wr.drew _ _ _ := Bo
      replace Q := Q.drew
      have hBw2 : w.heap.size + 3 ≤ wr.drew.heap.size := hBw
      clear hBw
      have hBw := hBw2
      clear hBw2
      generalize wr.drew = wd at *
      try simp only [Act.put, List.setIfInBounds_toArray, List.set_cons_zero, List.set_cons_succ]
      refine wpAnyH_take (i := 0) (v := ?_) (by simp only [List.getElem?_toArray, List.getElem?_cons_zero]; rfl) (by kernel_rfl) (by kernel_rfl) (by kernel_rfl) (by intro _ _ _ h; exact h) (Or.inl ⟨by rfl, ?_⟩) hHeld ?_
      rotate_left 1
      · intro wq hSw
        try dsimp only at hSw
        go_simp
        try (with_reducible rfl)
      try simp only [Act.put, List.setIfInBounds_toArray, List.set_cons_zero, List.set_cons_succ]
      refine wpAnyH_take (i := 2) (v := ?_) (by simp only [List.getElem?_toArray, List.getElem?_cons_succ, List.getElem?_cons_zero]; rfl) (by kernel_rfl) (by kernel_rfl) (by kernel_rfl) (by intro _ _ _ h; exact h) (Or.inl ⟨by rfl, ?_⟩) hHeld ?_
      rotate_left 1
      · intro wq hSw
        try dsimp only at hSw
        go_simp
        try (with_reducible rfl)
      try simp only [Act.put, List.setIfInBounds_toArray, List.set_cons_zero, List.set_cons_succ]
      refine wpAnyH_take (i := 3) (v := ?_) (by simp only [List.getElem?_toArray, List.getElem?_cons_succ, List.getElem?_cons_zero]; rfl) (by kernel_rfl) (by kernel_rfl) (by kernel_rfl) (by intro _ _ _ h; exact h) (Or.inl ⟨by rfl, ?_⟩) hHeld ?_
      rotate_left 1
      · intro wq hSw
        try dsimp only at hSw
        obtain ⟨x0, x1, x2, x3, x4, _⟩ := hSw.2.1.five
        go_simp
        try (with_reducible rfl)
      try simp only [Act.put, List.setIfInBounds_toArray, List.set_cons_zero, List.set_cons_succ]
      refine wpAnyH_take (i := 4) (v := ?_) (by simp only [List.getElem?_toArray, List.getElem?_cons_succ, List.getElem?_cons_zero]; rfl) (by kernel_rfl) (by kernel_rfl) (by kernel_rfl) (by intro _ _ _ h; exact h) (Or.inl ⟨by rfl, ?_⟩) hHeld ?_
      rotate_left 1
      · intro wq hSw
        try dsimp only at hSw
        go_simp
        try (with_reducible rfl)
      try simp only [Act.put, List.setIfInBounds_toArray, List.set_cons_zero, List.set_cons_succ]
      refine wpAnyH_take (i := 5) (v := ?_) (by simp only [List.getElem?_toArray, List.getElem?_cons_succ, List.getElem?_cons_zero]; rfl) (by kernel_rfl) (by kernel_rfl) (by kernel_rfl) (by intro _ _ _ h; exact h) (Or.inl ⟨by rfl, ?_⟩) hHeld ?_
      rotate_left 1
      · intro wq hSw
        try dsimp only at hSw
        go_simp
        try (with_reducible rfl)
      try simp only [Act.put, List.setIfInBounds_toArray, List.set_cons_zero, List.set_cons_succ]
      refine wpAnyH_take (i := 6) (v := ?_) (by simp only [List.getElem?_toArray, List.getElem?_cons_succ, List.getElem?_cons_zero]; rfl) (by kernel_rfl) (by kernel_rfl) (by kernel_rfl) (by intro _ _ _ h; exact h) (Or.inl ⟨by rfl, ?_⟩) hHeld ?_
      rotate_left 1
      · intro wq hSw
        try dsimp only at hSw
        have x0 := (hSw.1.cell hg).trans c0'
        have x1 := (hSw.1.cell hg).trans c1'
        have x2 := (hSw.1.cell hg).trans c2'
        have x3 := (hSw.1.cell hg).trans c3'
        go_simp
        try (with_reducible rfl)
      try simp only [Act.put, List.setIfInBounds_toArray, List.set_cons_zero, List.set_cons_succ]
      refine wpAnyH_ready (rs := [1, 7]) (by kernel_rfl) (by simp) ?_
      refine AllReadyH.cons (by simp only [List.getElem?_toArray, List.getElem?_cons_succ, List.getElem?_cons_zero]; rfl) (fun K hK => ?_) (AllReadyH.cons (by simp only [List.getElem?_toArray, List.getElem?_cons_succ, List.getElem?_cons_zero]; rfl) (fun K hK => ?_) AllReadyH.nil)
      · skip
        obtain ⟨x0, x1, x2, x3, x4, _⟩ := Bo.five
        go_simp
        clear x0 x1 x2 x3 x4
        refine hK.out _ _ ⟨bS, Bd, Br⟩ (fun hHeld => ?_)
        clear hK K
        try simp only [Act.put, List.setIfInBounds_toArray, List.set_cons_zero, List.set_cons_succ]
        refine wpAnyH_ready (rs := [7]) (by kernel_rfl) (by simp) ?_
        refine AllReadyH.cons (by simp only [List.getElem?_toArray, List.getElem?_cons_succ, List.getElem?_cons_zero]; rfl) (fun K hK => ?_) AllReadyH.nil
        have hC := refCopy3_any z.st z.rs z.la Ai z.l.length ci z.l wd (hS.below bS) (by omega)
        go_simp
        refine hC.mono ?_
        rintro e w_7_2 ⟨A2, n2, c2, rfl, N2, b2⟩
        go_wp2_with fail
        obtain rfl : z.l.length = n2 := N2.sl.len8
        replace Bo := Bo.under b2
        replace Bd := Bd.under b2
        replace Br := Br.under b2
        replace Q := Q.under b2
        replace bS := bS.trans (b2.mono bS.size)
        have NN := own_base N2 hBw
        replace hBw := Nat.le_trans hBw b2.size
        clear hC N2 b2
        refine hK.out _ _ ⟨bS, Bd, Br⟩ (fun hHeld => ?_)
        clear hK K
        try simp only [Act.put, List.setIfInBounds_toArray, List.set_cons_zero, List.set_cons_succ]
        refine wpAnyH_ready (rs := [8]) (by kernel_rfl) (by simp) ?_
        refine AllReadyH.cons (by simp only [List.getElem?_toArray, List.getElem?_cons_succ, List.getElem?_cons_zero]; rfl) (fun K hK => ?_) AllReadyH.nil
        go_simp
        have Bs := Blk.new w_7_2 #[.int .i64 z.st, .int .i64 z.rs, .slice A2 z.l.length c2, .int .i64 z.la] 46
        replace Bo := Bo.alloc (.cells #[.int .i64 z.st, .int .i64 z.rs, .slice A2 z.l.length c2, .int .i64 z.la] 46)
        replace Bd := Bd.alloc (.cells #[.int .i64 z.st, .int .i64 z.rs, .slice A2 z.l.length c2, .int .i64 z.la] 46)
        replace Br := Br.alloc (.cells #[.int .i64 z.st, .int .i64 z.rs, .slice A2 z.l.length c2, .int .i64 z.la] 46)
        replace Q := Q.alloc (.cells #[.int .i64 z.st, .int .i64 z.rs, .slice A2 z.l.length c2, .int .i64 z.la] 46)
        replace NN := World.ownsRow.alloc NN (.cells #[.int .i64 z.st, .int .i64 z.rs, .slice A2 z.l.length c2, .int .i64 z.la] 46)
        replace bS := bS.alloc bS.size (.cells #[.int .i64 z.st, .int .i64 z.rs, .slice A2 z.l.length c2, .int .i64 z.la] 46)
        have hBw2 : w.heap.size + 3 ≤ (w_7_2.alloc (.cells #[.int .i64 z.st, .int .i64 z.rs, .slice A2 z.l.length c2, .int .i64 z.la] 46)).heap.size := by simp; omega
        clear hBw
        have hBw := hBw2
        clear hBw2
        obtain ⟨ks, hks⟩ : ∃ k, w_7_2.heap.size = k := ⟨_, rfl⟩
        rw [hks] at Bs
        try simp only [hks]
        clear hks
        generalize w_7_2.alloc (.cells #[.int .i64 z.st, .int .i64 z.rs, .slice A2 z.l.length c2, .int .i64 z.la] 46) = w_8_3 at *
        refine hK.out _ _ ⟨bS, Bd, Br⟩ (fun hHeld => ?_)
        clear hK K
        try simp only [Act.put, List.setIfInBounds_toArray, List.set_cons_zero, List.set_cons_succ]
        refine wpAnyH_ready (rs := [9]) (by kernel_rfl) (by simp) ?_
        refine AllReadyH.cons (by simp only [List.getElem?_toArray, List.getElem?_cons_succ, List.getElem?_cons_zero]; rfl) (fun K hK => ?_) AllReadyH.nil
        obtain ⟨A3, c3, w_9_4, hr, Q3, hg⟩ := Q.app hBw (by omega) z NN Bs
        refine (if_pos (by rfl)).mpr (wp_app (Operand.tmp 22) (Operand.tmp 29) 23 rfl rfl rfl hr ?_)
        try simp only [Act.put, List.setIfInBounds_toArray, List.set_cons_zero, List.set_cons_succ]
        have hgo : ∀ b, (Value.slice A k c0).ownBlock = some b → w.heap.size + 3 ≤ b := Q.ge
        replace Bo := Bo.same (hg.block _ Bo.lt (fun e => by have := hgo _ e.symm; omega))
        replace Bd := Bd.same (hg.block _ Bd.lt (fun e => by have := hgo _ e.symm; omega))
        replace Br := Br.same (hg.block _ Br.lt (fun e => by have := hgo _ e.symm; omega))
        replace bS := bS.grown hg bS.size (fun b hb => by have := hgo b hb; omega)
        have hBw2 := Nat.le_trans hBw hg.size
        clear hBw hr hg hgo NN Bs Q
        have hBw := hBw2
        clear hBw2
        refine hK.out _ _ ⟨bS, Bd, Br⟩ (fun hHeld => ?_)
        clear hK K
        try simp only [Act.put, List.setIfInBounds_toArray, List.set_cons_zero, List.set_cons_succ]
        refine wpAnyH_take (i := 10) (v := ?_) (by simp only [List.getElem?_toArray, List.getElem?_cons_succ, List.getElem?_cons_zero]; rfl) (by kernel_rfl) (by kernel_rfl) (by kernel_rfl) (by intro _ _ _ h; exact h) (Or.inl ⟨by rfl, ?_⟩) hHeld ?_
        rotate_left 1
        · intro wq hSw
          try dsimp only at hSw
          go_simp
          try (with_reducible rfl)
        try simp only [Act.put, List.setIfInBounds_toArray, List.set_cons_zero, List.set_cons_succ]
        refine wpAnyH_ready (rs := [11]) (by kernel_rfl) (by simp) ?_
        refine AllReadyH.cons (by simp only [List.getElem?_toArray, List.getElem?_cons_succ, List.getElem?_cons_zero]; rfl) (fun K hK => ?_) AllReadyH.nil
        obtain ⟨x0, x1, x2, x3, x4, y0, y1, y2, y3, y4⟩ := Bo.five
        go_simp
        have Bo2 := Bo.set 1 (.slice A3 (k + 1) c3)
        simp only [List.setIfInBounds_toArray, List.set_cons_zero, List.set_cons_succ] at Bo2
        replace Bd := Bd.far (a := ⟨w.heap.size + 2, 1, none⟩) (by simp) (.slice A3 (k + 1) c3)
        replace Br := Br.far (a := ⟨w.heap.size + 2, 1, none⟩) (by simp) (.slice A3 (k + 1) c3)
        replace Q3 := Q3.far (a := ⟨w.heap.size + 2, 1, none⟩) (by simp) (.slice A3 (k + 1) c3)
        replace bS := bS.setCell (p := ⟨w.heap.size + 2, 1, none⟩) (by simp) (.slice A3 (k + 1) c3)
        clear x0 x1 x2 x3 x4 y0 y1 y2 y3 y4 Bo
        have hBw2 : w.heap.size + 3 ≤ (w_9_4.setCell ⟨w.heap.size + 2, 1, none⟩ (.slice A3 (k + 1) c3)).heap.size := by simpa [World.setCell] using hBw
        clear hBw
        have hBw := hBw2
        clear hBw2
        generalize w_9_4.setCell ⟨w.heap.size + 2, 1, none⟩ (.slice A3 (k + 1) c3) = w_11_5 at *
        refine hK.out _ _ ⟨bS, Bd, Br⟩ (fun hHeld => ?_)
        clear hK K
        try simp only [Act.put, List.setIfInBounds_toArray, List.set_cons_zero, List.set_cons_succ]
        refine wpAnyH_done (by kernel_rfl) ?_ _
        clear hHeld
        go_wp2
        go_roundg g
        case measure => omega
        case rel => exact ⟨k + 1, by have := hk.out; omega, by first | rfl | (simp; done), A3, c3, Bo2, Bd, Br, by rw [hk1.out]; exact Q3, bS, hBw⟩
      · skip
        have hC := refCopy3_any z.st z.rs z.la Ai z.l.length ci z.l wd (hS.below bS) (by omega)
        go_simp
        refine hC.mono ?_
        rintro e w_7_1 ⟨A2, n2, c2, rfl, N2, b2⟩
        go_wp2_with fail
        obtain rfl : z.l.length = n2 := N2.sl.len8
        replace Bo := Bo.under b2
        replace Bd := Bd.under b2
        replace Br := Br.under b2
        replace Q := Q.under b2
        replace bS := bS.trans (b2.mono bS.size)
        have NN := own_base N2 hBw
        replace hBw := Nat.le_trans hBw b2.size
        clear hC N2 b2
        refine hK.out _ _ ⟨bS, Bd, Br⟩ (fun hHeld => ?_)
        clear hK K
        try simp only [Act.put, List.setIfInBounds_toArray, List.set_cons_zero, List.set_cons_succ]
        refine wpAnyH_ready (rs := [1, 8]) (by kernel_rfl) (by simp) ?_
        refine AllReadyH.cons (by simp only [List.getElem?_toArray, List.getElem?_cons_succ, List.getElem?_cons_zero]; rfl) (fun K hK => ?_) (AllReadyH.cons (by simp only [List.getElem?_toArray, List.getElem?_cons_succ, List.getElem?_cons_zero]; rfl) (fun K hK => ?_) AllReadyH.nil)
        · skip
          obtain ⟨x0, x1, x2, x3, x4, _⟩ := Bo.five
          go_simp
          clear x0 x1 x2 x3 x4
          refine hK.out _ _ ⟨bS, Bd, Br⟩ (fun hHeld => ?_)
          clear hK K
          try simp only [Act.put, List.setIfInBounds_toArray, List.set_cons_zero, List.set_cons_succ]
          refine wpAnyH_ready (rs := [8]) (by kernel_rfl) (by simp) ?_
          refine AllReadyH.cons (by simp only [List.getElem?_toArray, List.getElem?_cons_succ, List.getElem?_cons_zero]; rfl) (fun K hK => ?_) AllReadyH.nil
          go_simp
          have Bs := Blk.new w_7_1 #[.int .i64 z.st, .int .i64 z.rs, .slice A2 z.l.length c2, .int .i64 z.la] 46
          replace Bo := Bo.alloc (.cells #[.int .i64 z.st, .int .i64 z.rs, .slice A2 z.l.length c2, .int .i64 z.la] 46)
          replace Bd := Bd.alloc (.cells #[.int .i64 z.st, .int .i64 z.rs, .slice A2 z.l.length c2, .int .i64 z.la] 46)
          replace Br := Br.alloc (.cells #[.int .i64 z.st, .int .i64 z.rs, .slice A2 z.l.length c2, .int .i64 z.la] 46)
          replace Q := Q.alloc (.cells #[.int .i64 z.st, .int .i64 z.rs, .slice A2 z.l.length c2, .int .i64 z.la] 46)
          replace NN := World.ownsRow.alloc NN (.cells #[.int .i64 z.st, .int .i64 z.rs, .slice A2 z.l.length c2, .int .i64 z.la] 46)
          replace bS := bS.alloc bS.size (.cells #[.int .i64 z.st, .int .i64 z.rs, .slice A2 z.l.length c2, .int .i64 z.la] 46)
          have hBw2 : w.heap.size + 3 ≤ (w_7_1.alloc (.cells #[.int .i64 z.st, .int .i64 z.rs, .slice A2 z.l.length c2, .int .i64 z.la] 46)).heap.size := by simp; omega
          clear hBw
          have hBw := hBw2
          clear hBw2
          obtain ⟨ks, hks⟩ : ∃ k, w_7_1.heap.size = k := ⟨_, rfl⟩
          rw [hks] at Bs
          try simp only [hks]
          clear hks
          generalize w_7_1.alloc (.cells #[.int .i64 z.st, .int .i64 z.rs, .slice A2 z.l.length c2, .int .i64 z.la] 46) = w_8_3 at *
          refine hK.out _ _ ⟨bS, Bd, Br⟩ (fun hHeld => ?_)
          clear hK K
          try simp only [Act.put, List.setIfInBounds_toArray, List.set_cons_zero, List.set_cons_succ]
          refine wpAnyH_ready (rs := [9]) (by kernel_rfl) (by simp) ?_
          refine AllReadyH.cons (by simp only [List.getElem?_toArray, List.getElem?_cons_succ, List.getElem?_cons_zero]; rfl) (fun K hK => ?_) AllReadyH.nil
          obtain ⟨A3, c3, w_9_4, hr, Q3, hg⟩ := Q.app hBw (by omega) z NN Bs
          refine (if_pos (by rfl)).mpr (wp_app (Operand.tmp 22) (Operand.tmp 29) 23 rfl rfl rfl hr ?_)
          try simp only [Act.put, List.setIfInBounds_toArray, List.set_cons_zero, List.set_cons_succ]
          have hgo : ∀ b, (Value.slice A k c0).ownBlock = some b → w.heap.size + 3 ≤ b := Q.ge
          replace Bo := Bo.same (hg.block _ Bo.lt (fun e => by have := hgo _ e.symm; omega))
          replace Bd := Bd.same (hg.block _ Bd.lt (fun e => by have := hgo _ e.symm; omega))
          replace Br := Br.same (hg.block _ Br.lt (fun e => by have := hgo _ e.symm; omega))
          replace bS := bS.grown hg bS.size (fun b hb => by have := hgo b hb; omega)
          have hBw2 := Nat.le_trans hBw hg.size
          clear hBw hr hg hgo NN Bs Q
          have hBw := hBw2
          clear hBw2
          refine hK.out _ _ ⟨bS, Bd, Br⟩ (fun hHeld => ?_)
          clear hK K
          try simp only [Act.put, List.setIfInBounds_toArray, List.set_cons_zero, List.set_cons_succ]
          refine wpAnyH_take (i := 10) (v := ?_) (by simp only [List.getElem?_toArray, List.getElem?_cons_succ, List.getElem?_cons_zero]; rfl) (by kernel_rfl) (by kernel_rfl) (by kernel_rfl) (by intro _ _ _ h; exact h) (Or.inl ⟨by rfl, ?_⟩) hHeld ?_
          rotate_left 1
          · intro wq hSw
            try dsimp only at hSw
            go_simp
            try (with_reducible rfl)
          try simp only [Act.put, List.setIfInBounds_toArray, List.set_cons_zero, List.set_cons_succ]
          refine wpAnyH_ready (rs := [11]) (by kernel_rfl) (by simp) ?_
          refine AllReadyH.cons (by simp only [List.getElem?_toArray, List.getElem?_cons_succ, List.getElem?_cons_zero]; rfl) (fun K hK => ?_) AllReadyH.nil
          obtain ⟨x0, x1, x2, x3, x4, y0, y1, y2, y3, y4⟩ := Bo.five
          go_simp
          have Bo2 := Bo.set 1 (.slice A3 (k + 1) c3)
          simp only [List.setIfInBounds_toArray, List.set_cons_zero, List.set_cons_succ] at Bo2
          replace Bd := Bd.far (a := ⟨w.heap.size + 2, 1, none⟩) (by simp) (.slice A3 (k + 1) c3)
          replace Br := Br.far (a := ⟨w.heap.size + 2, 1, none⟩) (by simp) (.slice A3 (k + 1) c3)
          replace Q3 := Q3.far (a := ⟨w.heap.size + 2, 1, none⟩) (by simp) (.slice A3 (k + 1) c3)
          replace bS := bS.setCell (p := ⟨w.heap.size + 2, 1, none⟩) (by simp) (.slice A3 (k + 1) c3)
          clear x0 x1 x2 x3 x4 y0 y1 y2 y3 y4 Bo
          have hBw2 : w.heap.size + 3 ≤ (w_9_4.setCell ⟨w.heap.size + 2, 1, none⟩ (.slice A3 (k + 1) c3)).heap.size := by simpa [World.setCell] using hBw
          clear hBw
          have hBw := hBw2
          clear hBw2
          generalize w_9_4.setCell ⟨w.heap.size + 2, 1, none⟩ (.slice A3 (k + 1) c3) = w_11_5 at *
          refine hK.out _ _ ⟨bS, Bd, Br⟩ (fun hHeld => ?_)
          clear hK K
          try simp only [Act.put, List.setIfInBounds_toArray, List.set_cons_zero, List.set_cons_succ]
          refine wpAnyH_done (by kernel_rfl) ?_ _
          clear hHeld
          go_wp2
          go_roundg g
          case measure => omega
          case rel => exact ⟨k + 1, by have := hk.out; omega, by first | rfl | (simp; done), A3, c3, Bo2, Bd, Br, by rw [hk1.out]; exact Q3, bS, hBw⟩
        · skip
          go_simp
          have Bs := Blk.new w_7_1 #[.int .i64 z.st, .int .i64 z.rs, .slice A2 z.l.length c2, .int .i64 z.la] 46
          replace Bo := Bo.alloc (.cells #[.int .i64 z.st, .int .i64 z.rs, .slice A2 z.l.length c2, .int .i64 z.la] 46)
          replace Bd := Bd.alloc (.cells #[.int .i64 z.st, .int .i64 z.rs, .slice A2 z.l.length c2, .int .i64 z.la] 46)
          replace Br := Br.alloc (.cells #[.int .i64 z.st, .int .i64 z.rs, .slice A2 z.l.length c2, .int .i64 z.la] 46)
          replace Q := Q.alloc (.cells #[.int .i64 z.st, .int .i64 z.rs, .slice A2 z.l.length c2, .int .i64 z.la] 46)
          replace NN := World.ownsRow.alloc NN (.cells #[.int .i64 z.st, .int .i64 z.rs, .slice A2 z.l.length c2, .int .i64 z.la] 46)
          replace bS := bS.alloc bS.size (.cells #[.int .i64 z.st, .int .i64 z.rs, .slice A2 z.l.length c2, .int .i64 z.la] 46)
          have hBw2 : w.heap.size + 3 ≤ (w_7_1.alloc (.cells #[.int .i64 z.st, .int .i64 z.rs, .slice A2 z.l.length c2, .int .i64 z.la] 46)).heap.size := by simp; omega
          clear hBw
          have hBw := hBw2
          clear hBw2
          obtain ⟨ks, hks⟩ : ∃ k, w_7_1.heap.size = k := ⟨_, rfl⟩
          rw [hks] at Bs
          try simp only [hks]
          clear hks
          generalize w_7_1.alloc (.cells #[.int .i64 z.st, .int .i64 z.rs, .slice A2 z.l.length c2, .int .i64 z.la] 46) = w_8_2 at *
          refine hK.out _ _ ⟨bS, Bd, Br⟩ (fun hHeld => ?_)
          clear hK K
          try simp only [Act.put, List.setIfInBounds_toArray, List.set_cons_zero, List.set_cons_succ]
          refine wpAnyH_ready (rs := [1]) (by kernel_rfl) (by simp) ?_
          refine AllReadyH.cons (by simp only [List.getElem?_toArray, List.getElem?_cons_succ, List.getElem?_cons_zero]; rfl) (fun K hK => ?_) AllReadyH.nil
          obtain ⟨x0, x1, x2, x3, x4, _⟩ := Bo.five
          go_simp
          clear x0 x1 x2 x3 x4
          refine hK.out _ _ ⟨bS, Bd, Br⟩ (fun hHeld => ?_)
          clear hK K
          try simp only [Act.put, List.setIfInBounds_toArray, List.set_cons_zero, List.set_cons_succ]
          refine wpAnyH_ready (rs := [9]) (by kernel_rfl) (by simp) ?_
          refine AllReadyH.cons (by simp only [List.getElem?_toArray, List.getElem?_cons_succ, List.getElem?_cons_zero]; rfl) (fun K hK => ?_) AllReadyH.nil
          obtain ⟨A3, c3, w_9_4, hr, Q3, hg⟩ := Q.app hBw (by omega) z NN Bs
          refine (if_pos (by rfl)).mpr (wp_app (Operand.tmp 22) (Operand.tmp 29) 23 rfl rfl rfl hr ?_)
          try simp only [Act.put, List.setIfInBounds_toArray, List.set_cons_zero, List.set_cons_succ]
          have hgo : ∀ b, (Value.slice A k c0).ownBlock = some b → w.heap.size + 3 ≤ b := Q.ge
          replace Bo := Bo.same (hg.block _ Bo.lt (fun e => by have := hgo _ e.symm; omega))
          replace Bd := Bd.same (hg.block _ Bd.lt (fun e => by have := hgo _ e.symm; omega))
          replace Br := Br.same (hg.block _ Br.lt (fun e => by have := hgo _ e.symm; omega))
          replace bS := bS.grown hg bS.size (fun b hb => by have := hgo b hb; omega)
          have hBw2 := Nat.le_trans hBw hg.size
          clear hBw hr hg hgo NN Bs Q
          have hBw := hBw2
          clear hBw2
          refine hK.out _ _ ⟨bS, Bd, Br⟩ (fun hHeld => ?_)
          clear hK K
          try simp only [Act.put, List.setIfInBounds_toArray, List.set_cons_zero, List.set_cons_succ]
          refine wpAnyH_take (i := 10) (v := ?_) (by simp only [List.getElem?_toArray, List.getElem?_cons_succ, List.getElem?_cons_zero]; rfl) (by kernel_rfl) (by kernel_rfl) (by kernel_rfl) (by intro _ _ _ h; exact h) (Or.inl ⟨by rfl, ?_⟩) hHeld ?_
          rotate_left 1
          · intro wq hSw
            try dsimp only at hSw
            go_simp
            try (with_reducible rfl)
          try simp only [Act.put, List.setIfInBounds_toArray, List.set_cons_zero, List.set_cons_succ]
          refine wpAnyH_ready (rs := [11]) (by kernel_rfl) (by simp) ?_
          refine AllReadyH.cons (by simp only [List.getElem?_toArray, List.getElem?_cons_succ, List.getElem?_cons_zero]; rfl) (fun K hK => ?_) AllReadyH.nil
          obtain ⟨x0, x1, x2, x3, x4, y0, y1, y2, y3, y4⟩ := Bo.five
          go_simp
          have Bo2 := Bo.set 1 (.slice A3 (k + 1) c3)
          simp only [List.setIfInBounds_toArray, List.set_cons_zero, List.set_cons_succ] at Bo2
          replace Bd := Bd.far (a := ⟨w.heap.size + 2, 1, none⟩) (by simp) (.slice A3 (k + 1) c3)
          replace Br := Br.far (a := ⟨w.heap.size + 2, 1, none⟩) (by simp) (.slice A3 (k + 1) c3)
          replace Q3 := Q3.far (a := ⟨w.heap.size + 2, 1, none⟩) (by simp) (.slice A3 (k + 1) c3)
          replace bS := bS.setCell (p := ⟨w.heap.size + 2, 1, none⟩) (by simp) (.slice A3 (k + 1) c3)
          clear x0 x1 x2 x3 x4 y0 y1 y2 y3 y4 Bo
          have hBw2 : w.heap.size + 3 ≤ (w_9_4.setCell ⟨w.heap.size + 2, 1, none⟩ (.slice A3 (k + 1) c3)).heap.size := by simpa [World.setCell] using hBw
          clear hBw
          have hBw := hBw2
          clear hBw2
          generalize w_9_4.setCell ⟨w.heap.size + 2, 1, none⟩ (.slice A3 (k + 1) c3) = w_11_5 at *
          refine hK.out _ _ ⟨bS, Bd, Br⟩ (fun hHeld => ?_)
          clear hK K
          try simp only [Act.put, List.setIfInBounds_toArray, List.set_cons_zero, List.set_cons_succ]
          refine wpAnyH_done (by kernel_rfl) ?_ _
          clear hHeld
          go_wp2
          go_roundg g
          case measure => omega
          case rel => exact ⟨k + 1, by have := hk.out; omega, by first | rfl | (simp; done), A3, c3, Bo2, Bd, Br, by rw [hk1.out]; exact Q3, bS, hBw⟩
    · obtain rfl : k = n := by omega
      have ht : zs.take k = zs := List.take_of_length_le (by omega)
      rw [ht] at Q
      clear ht hlt hk
      obtain ⟨x0, x1, x2, x3, x4, _⟩ := Bo.five
      obtain ⟨r0, r1, r2, r3, r4, y0, y1, y2, y3, y4⟩ := Br.five
      go_wp2
      try simp only [Exit.inBlock, Exit.then]
      have Q2 := ((((Q.far (a := ⟨w.heap.size + 1, 0, none⟩) (by simp) (.int .i64 size)).far (a := ⟨w.heap.size + 1, 1, none⟩) (by simp) (.slice A k c0)).far (a := ⟨w.heap.size + 1, 2, none⟩) (by simp) (.int .i64 lf)).far (a := ⟨w.heap.size + 1, 3, none⟩) (by simp) (.bool dw)).far (a := ⟨w.heap.size + 1, 4, none⟩) (by simp) (.int .i64 dn)
      refine ret_blk rfl rfl (((((Br.set 0 _).set 1 _).set 2 _).set 3 _).set 4 _) Try.underlying25 (by kernel_rfl) ⟨A, c0, rfl, Q2.toZs.imp (fun b _ hb => by omega), fun hn => ?_, ((((bS.setCell (by simp) _).setCell (by simp) _).setCell (by simp) _).setCell (by simp) _).setCell (by simp) _⟩
      obtain ⟨g, h1, h2, h3⟩ := Q2.toZr hn
      exact ⟨g, h1, h2, h3.imp (fun b _ hb => by omega)⟩
end Go.Proofs.Ytnjekhnheihooaa
