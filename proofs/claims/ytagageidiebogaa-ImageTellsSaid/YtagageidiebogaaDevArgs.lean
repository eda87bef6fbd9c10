/-
  Arguments that are devices: a struct of five fields, a slice of zones among them. No program is named here.
-/
import Derived.Test.YtagageidiebogaaDevWords
import Derived.Lib.SmallJoins
namespace Go.Wag
open Go.RowKit Go.ChangeShapes Go.WideShapes Go.Deep
set_option linter.unusedVariables false
set_option maxRecDepth 20000

theorem array5 {cs : Array Value} (h : cs.size = 5) : ∃ a b c d e, cs = #[a, b, c, d, e] := by
  obtain ⟨l⟩ := cs
  match l, h with
  | [a, b, c, d, e], _ => exact ⟨a, b, c, d, e, rfl⟩

section
variable {H : Type} {enc : TypeId × Value → H} {P : Program} {w : World} {base : Nat} {held : Bool}
theorem open_agg5 {r : Reach} {b0 : Nat} {t : TypeId} {f0 f1 f2 f3 f4 : Field} {v : Value} {d : DataW H} {p : List MemPlace} {spare : Nat → Bool} (hs : P.underlying t = some (.struct #[f0, f1, f2, f3, f4])) (hone : oneCellFields P #[f0, f1, f2, f3, f4] = true) (hC : P.cellsOf t = 5)
    (hv : Value.okWide P w r b0 t v) (h : DataW.Trod enc P w base spare held t v d p) :
    ∃ (v0 v1 v2 v3 v4 : Value) (y0 y1 y2 y3 y4 : DataW H × List MemPlace) (n : Nat), v = .agg #[v0, v1, v2, v3, v4] ∧ True ∧ True ∧
      DataW.trod enc P w base spare held n f0.type [v0] = some y0 ∧ DataW.trod enc P w base spare held n f1.type [v1] = some y1 ∧ DataW.trod enc P w base spare held n f2.type [v2] = some y2 ∧ DataW.trod enc P w base spare held n f3.type [v3] = some y3 ∧ DataW.trod enc P w base spare held n f4.type [v4] = some y4 := by
  obtain ⟨cs, rfl, hsz⟩ := okWide_struct hs hv
  obtain ⟨c0, c1, c2, c3, c4, rfl⟩ := array5 (hsz.trans hC)
  obtain ⟨fuel, hf⟩ := h
  obtain ⟨xs, n, _, _, _, hl, hi⟩ := DataW.trod_struct hs hf
  have hl5 : xs.length = 5 := hl
  have hx : ∀ i (hi : i < 5), xs[i]? = some (xs[i]'(by omega)) := fun i hi => List.getElem?_eq_getElem (by omega)
  obtain ⟨o0, k0⟩ := hone_of hone 0 f0 rfl
  obtain ⟨o1, k1⟩ := hone_of hone 1 f1 rfl
  obtain ⟨o2, k2⟩ := hone_of hone 2 f2 rfl
  obtain ⟨o3, k3⟩ := hone_of hone 3 f3 rfl
  obtain ⟨o4, k4⟩ := hone_of hone 4 f4 rfl
  have g0 := (hi 0 f0 rfl).trans (hx 0 (by omega))
  have g1 := (hi 1 f1 rfl).trans (hx 1 (by omega))
  have g2 := (hi 2 f2 rfl).trans (hx 2 (by omega))
  have g3 := (hi 3 f3 rfl).trans (hx 3 (by omega))
  have g4 := (hi 4 f4 rfl).trans (hx 4 (by omega))
  rw [o0, k0] at g0
  rw [o1, k1] at g1
  rw [o2, k2] at g2
  rw [o3, k3] at g3
  rw [o4, k4] at g4
  exact ⟨c0, c1, c2, c3, c4, _, _, _, _, _, n, rfl, trivial, trivial, g0, g1, g2, g3, g4⟩

/-- A field that is a slice of structs. -/
theorem isSts_of_field {t e : TypeId} {fs : Array Field} {ms : List Fm} {v : Value} {fuel : Nat} {x : DataW H × List MemPlace} (ht : P.underlying t = some (.slice e)) (he : P.underlying e = some (.struct fs)) (hone : oneCellFields P fs = true) (hC : P.cellsOf e = fs.size)
    (hF : FmsOk P fs.toList ms) (h : DataW.trod enc P w base (fun _ => true) held fuel t [v] = some x) : ∃ a len cap, v = .slice a len cap ∧ IsSts ms w a len cap := by
  obtain ⟨a, len, cap, rfl⟩ : ∃ a len cap, v = .slice a len cap := by
    rcases open_slice ht h with ⟨hcs, _⟩ | ⟨ad, l, c, m, n, D, Pl, hcs, _⟩
    · exact ⟨none, 0, 0, by simpa using hcs⟩
    · exact ⟨some ad, l, c, by simpa using hcs⟩
  exact ⟨a, len, cap, rfl, isSts_of_trod ht he hone hC hF ⟨fuel, by simpa [Value.cells] using h⟩⟩
end

theorem list_of {α : Type} {Q : Nat → α → Prop} : ∀ n : Nat, (∀ i, i < n → ∃ z, Q i z) → ∃ l : List α, l.length = n ∧ ∀ i z, l[i]? = some z → Q i z
  | 0, _ => ⟨[], rfl, fun i z h => by simp at h⟩
  | n + 1, h => by
    obtain ⟨l, hl, hq⟩ := list_of n (fun i hi => h i (by omega))
    obtain ⟨z, hz⟩ := h n (by omega)
    refine ⟨l ++ [z], by simp [hl], fun i x hx => ?_⟩
    by_cases hi : i < n
    · rw [List.getElem?_append_left (by omega)] at hx
      exact hq i x hx
    · rw [List.getElem?_append_right (by omega)] at hx
      have h0 : i - l.length = 0 := by
        have := (List.getElem?_eq_some_iff.1 hx).1
        simp at this
        omega
      rw [h0] at hx
      obtain rfl : i = n := by omega
      cases hx
      exact hz

/-- A slice of zones that came in. -/
theorem zs_of_sts {w : World} {a : Option Addr} {len cap : Nat} (h : IsSts [.num .i64, .num .i64, .row .u8, .num .i64] w a len cap) : ∃ zs, Zs (fun b => b < w.heap.size) w a len cap zs := by
  rcases h with ⟨rfl, rfl, rfl⟩ | ⟨ad, rfl, hl, hm, hc⟩
  · exact ⟨[], Zs.nil _ _⟩
  · have hm2 : cap ≤ 9223372036854775807 := by simpa [maxLen] using hm
    rcases Nat.eq_zero_or_pos len with h0 | h0
    · subst h0
      exact ⟨[], rfl, hl, hm2, fun h => absurd h (by omega)⟩
    · obtain ⟨g, o, sp⟩ := ad
      have hg : g < w.heap.size := by
        obtain ⟨v, cz, _⟩ := hc 0 h0 0 _ rfl
        by_cases hx : g < w.heap.size
        · exact hx
        · exfalso
          unfold World.cell? at cz
          rw [add_block, Array.getElem?_eq_none (by simp; omega)] at cz
          cases cz
      cases sp with
      | some sp =>
        exfalso
        obtain ⟨v, cz, _⟩ := hc 0 h0 0 _ rfl
        unfold World.cell? at cz
        split at cz
        · simp [Addr.add] at cz
        · cases cz
      | none =>
        obtain ⟨zs, hzl, hz⟩ := list_of (Q := fun i z => ZAt (fun b => b < w.heap.size) w g (o + i * 4) z) len (fun i hi => by
          obtain ⟨v0, c0, st, rfl, _⟩ := hc i hi 0 _ rfl
          obtain ⟨v1, c1, rs, rfl, _⟩ := hc i hi 1 _ rfl
          obtain ⟨v2, c2, Ab, nb, cb, zz, rfl, hr⟩ := hc i hi 2 _ rfl
          obtain ⟨v3, c3, la, rfl, _⟩ := hc i hi 3 _ rfl
          obtain ⟨b, hb⟩ := hr.bytes
          obtain rfl : b.length = nb := hb.len8
          refine ⟨⟨st, rs, la, b⟩, Ab, cb, ?_, ?_, ?_, ?_, hb, fun hn ad e => ?_⟩
          · rw [Addr.add_lit] at c0; exact c0
          · rw [Addr.add_lit, ← Nat.add_assoc] at c1; exact c1
          · rw [Addr.add_lit, ← Nat.add_assoc] at c2; exact c2
          · rw [Addr.add_lit, ← Nat.add_assoc] at c3; exact c3
          · obtain ⟨ad', e', hb', _⟩ := hb.cells hn
            cases e.symm.trans e'
            exact hb')
        exact ⟨zs, hzl, hl, hm2, fun _ => ⟨g, o, rfl, hg, hg, hz⟩⟩
/-- A slice of integers that came in. -/
theorem ints_of_row {w : World} {a : Option Addr} {len cap : Nat} {zs : List Int} (h : IsRow .i64 w a len cap zs) : ∃ ks : List Int, Sl w a len cap (ks.map (Value.int .i64)) ∧ ∀ x ∈ ks, -9223372036854775808 ≤ x ∧ x < 9223372036854775808 := by
  obtain ⟨hs, hw⟩ := h.cells
  exact ⟨zs.take len, hs, fun x hx => wf_i64 (hw x hx)⟩
end Go.Wag
