/-
  Extents in memory.
-/
import Derived.Test.YtagageidiebogaaExtMath
import Derived.Test.YtagageidiebogaaStrs
namespace Go.Wag
open Go.RowKit
set_option linter.unusedVariables false
set_option maxRecDepth 20000
/-- Extents as elements of a slice. -/
def extE : Elt Xp where
  k := 5
  rd F w vs x := ∃ A c, vs = [.int .i64 x.la, .int .i64 x.n, .int .i64 x.k, .int .i64 x.g, .slice A x.l.length c] ∧ Sl w A x.l.length c (x.l.map v8) ∧ (0 < x.l.length → ∀ ad, A = some ad → F ad.block)
  pos := by decide
  len := fun ⟨A, c, h, _⟩ => by rw [h]; rfl
  keep := fun ⟨A, c, h, hS, hA⟩ hs hk => ⟨A, c, h, ⟨hS.len, hS.cap, hS.big, fun hn => by
    obtain ⟨ad, e, hb, hc⟩ := hS.cells hn
    exact ⟨ad, e, Nat.lt_of_lt_of_le hb hs, fun j u hu => (hk _ (by rw [add_block]; exact hb) (by rw [add_block]; exact hA hn ad e)).trans (hc j u hu)⟩⟩, hA⟩
  imp := fun ⟨A, c, h, hS, hA⟩ hF => ⟨A, c, h, hS, fun hn ad e => by
    obtain ⟨ad', e', hb, _⟩ := hS.cells hn
    cases e.symm.trans e'
    exact hF _ hb (hA hn ad e)⟩
/-- Extent i of a slice. -/
theorem Rs.ext_at {F : Nat → Prop} {w : World} {A : Option Addr} {n c : Nat} {xs : List Xp} (h : Rs extE F w A n c xs) {i : Nat} (hi : i < n) : ∃ g o x Ai ci, A = some ⟨g, o, none⟩ ∧ F g ∧ g < w.heap.size ∧ xs[i]? = some x ∧
    w.cell? ⟨g, o + i * 5, none⟩ = some (.int .i64 x.la) ∧ w.cell? ⟨g, o + i * 5 + 1, none⟩ = some (.int .i64 x.n) ∧ w.cell? ⟨g, o + i * 5 + 2, none⟩ = some (.int .i64 x.k) ∧ w.cell? ⟨g, o + i * 5 + 3, none⟩ = some (.int .i64 x.g) ∧ w.cell? ⟨g, o + i * 5 + 4, none⟩ = some (.slice Ai x.l.length ci) ∧ Sl w Ai x.l.length ci (x.l.map v8) ∧ (0 < x.l.length → ∀ ad, Ai = some ad → F ad.block) := by
  obtain ⟨g, o, x, vs, e, hF, hg, hr, ⟨Ai, ci, rfl, hS, hA⟩, hc⟩ := h.at_ hi
  exact ⟨g, o, x, Ai, ci, e, hF, hg, hr, hc 0 _ rfl, hc 1 _ rfl, hc 2 _ rfl, hc 3 _ rfl, hc 4 _ rfl, hS, hA⟩
theorem ext_wf {n : Int} (h : (Lit.int .i64 n).wf = true) : n ≤ 9223372036854775807 := by
  have h2 : n ≤ IntKind.i64.max := by
    simp only [Lit.wf, Bool.and_eq_true, decide_eq_true_eq] at h
    exact h.2
  have e : IntKind.i64.max = 9223372036854775807 := by decide
  omega
/-- A slice of extents that came in. -/
theorem exts_of_sts {w : World} {a : Option Addr} {len cap : Nat} (h : IsSts [.num .i64, .num .i64, .num .i64, .num .i64, .row .u8] w a len cap) : ∃ xs : List Xp, (∀ x ∈ xs, x.la ≤ 9223372036854775807) ∧ Rs extE (fun b => b < w.heap.size) w a len cap xs := by
  rcases h with ⟨rfl, rfl, rfl⟩ | ⟨ad, rfl, hl, hm, hc⟩
  · exact ⟨[], fun x h => absurd h (by simp), Rs.nil _ _ _⟩
  · have hm2 : cap ≤ 9223372036854775807 := by simpa [maxLen] using hm
    rcases Nat.eq_zero_or_pos len with h0 | h0
    · subst h0
      exact ⟨[], fun x h => absurd h (by simp), rfl, hl, hm2, fun h => absurd h (by omega)⟩
    · obtain ⟨g, o, sp⟩ := ad
      have hg : g < w.heap.size := by
        obtain ⟨v, cz, _⟩ := hc 0 h0 0 _ rfl
        by_cases hx : g < w.heap.size
        · exact hx
        · exfalso
          unfold World.cell? at cz
          rw [add_block, Array.getElem?_eq_none (by simp; omega)] at cz
          cases cz
      cases sp with
      | some sp =>
        exfalso
        obtain ⟨v, cz, _⟩ := hc 0 h0 0 _ rfl
        unfold World.cell? at cz
        split at cz
        · simp [Addr.add] at cz
        · cases cz
      | none =>
        obtain ⟨xs, hzl, hz⟩ := list_of (Q := fun i (x : Xp) => x.la ≤ 9223372036854775807 ∧ ∃ vs, extE.rd (fun b => b < w.heap.size) w vs x ∧ ∀ j v, vs[j]? = some v → w.cell? ⟨g, o + i * 5 + j, none⟩ = some v) len (fun i hi => by
          obtain ⟨v0, c0, n0, rfl, hw0⟩ := hc i hi 0 _ rfl
          obtain ⟨v1, c1, n1, rfl, _⟩ := hc i hi 1 _ rfl
          obtain ⟨v2, c2, n2, rfl, _⟩ := hc i hi 2 _ rfl
          obtain ⟨v3, c3, n3, rfl, _⟩ := hc i hi 3 _ rfl
          obtain ⟨v4, c4, Ab, nb, cb, zz, rfl, hr⟩ := hc i hi 4 _ rfl
          obtain ⟨b, hb⟩ := hr.bytes
          obtain rfl : b.length = nb := hb.len8
          refine ⟨⟨n0, n1, n2, n3, b⟩, ext_wf hw0, _, ⟨Ab, cb, rfl, hb, fun hn ad e => ?_⟩, fun j v hj => ?_⟩
          · obtain ⟨ad', e', hb', _⟩ := hb.cells hn
            cases e.symm.trans e'
            exact hb'
          · rw [Addr.add_lit] at c0 c1 c2 c3 c4
            rcases j with _ | _ | _ | _ | _ | j
            · cases hj; exact c0
            · cases hj; rw [Nat.add_assoc]; exact c1
            · cases hj; rw [Nat.add_assoc]; exact c2
            · cases hj; rw [Nat.add_assoc]; exact c3
            · cases hj; rw [Nat.add_assoc]; exact c4
            · simp at hj)
        exact ⟨xs, fun x hx => by
          obtain ⟨i, hi⟩ := List.mem_iff_getElem?.1 hx
          exact (hz i x hi).1, hzl, hl, hm2, fun _ => ⟨g, o, rfl, hg, hg, fun i x hx => (hz i x hx).2⟩⟩
theorem one_ext (a b c d : Int) (A : Option Addr) (n m : Nat) : ∀ u ∈ [Value.int .i64 a, .int .i64 b, .int .i64 c, .int .i64 d, .slice A n m], u.oneCell' = true := by
  intro u hu
  simp only [List.mem_cons, List.not_mem_nil, or_false] at hu
  rcases hu with rfl | rfl | rfl | rfl | rfl <;> rfl
/-- A slice of one extent that was just laid. -/
theorem rs_ext1 {w : World} {g : Nat} {t : TypeId} {x : Xp} {A : Option Addr} {n c : Nat} (hn : x.l.length = n) (h : Blk w g #[.int .i64 x.la, .int .i64 x.n, .int .i64 x.k, .int .i64 x.g, .slice A n c] t) (hs : Sl w A n c (x.l.map v8)) : Rs extE (fun _ => True) w (some ⟨g, 0, none⟩) 1 1 [x] := by
  subst hn
  refine ⟨rfl, Nat.le_refl _, by omega, fun _ => ⟨g, 0, rfl, trivial, h.lt, fun i y hi => ?_⟩⟩
  obtain rfl : i = 0 := by
    have := (List.getElem?_eq_some_iff.1 hi).1
    simp at this
    omega
  cases hi
  refine ⟨_, ⟨A, c, rfl, hs, fun _ _ _ => trivial⟩, fun j v hj => ?_⟩
  rw [h.cell]
  simpa using hj
end Go.Wag
