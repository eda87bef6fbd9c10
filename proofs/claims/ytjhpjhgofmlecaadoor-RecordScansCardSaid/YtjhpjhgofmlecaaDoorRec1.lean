/-
  Records in memory, and contracts of package record: Check, Size, Write.
-/
import Derived.Test.YtjhpjhgofmlecaaDoorRecMath
import Derived.Test.YtjhpjhgofmlecaaDoorStrs
import Derived.Test.YtjhpjhgofmlecaaDoorCrcSeal
namespace Go.Wag
open Go.RowKit
set_option linter.unusedVariables false
/-- Records as elements of a slice. -/
def recE : Elt Rp where
  k := 3
  rd F w vs r := ∃ A c, vs = [.int .i64 r.k, .int .i64 r.s, .slice A r.l.length c] ∧ Sl w A r.l.length c (r.l.map v8) ∧ (0 < r.l.length → ∀ ad, A = some ad → F ad.block)
  pos := by decide
  len := fun ⟨A, c, h, _⟩ => by rw [h]; rfl
  keep := fun ⟨A, c, h, hS, hA⟩ hs hk => ⟨A, c, h, ⟨hS.len, hS.cap, hS.big, fun hn => by
    obtain ⟨ad, e, hb, hc⟩ := hS.cells hn
    exact ⟨ad, e, Nat.lt_of_lt_of_le hb hs, fun j u hu => (hk _ (by rw [add_block]; exact hb) (by rw [add_block]; exact hA hn ad e)).trans (hc j u hu)⟩⟩, hA⟩
  imp := fun ⟨A, c, h, hS, hA⟩ hF => ⟨A, c, h, hS, fun hn ad e => by
    obtain ⟨ad', e', hb, _⟩ := hS.cells hn
    cases e.symm.trans e'
    exact hF _ hb (hA hn ad e)⟩
/-- Record i of a slice. -/
theorem Rs.rec_at {F : Nat → Prop} {w : World} {A : Option Addr} {n c : Nat} {rs : List Rp} (h : Rs recE F w A n c rs) {i : Nat} (hi : i < n) : ∃ g o r Ai ci, A = some ⟨g, o, none⟩ ∧ F g ∧ g < w.heap.size ∧ rs[i]? = some r ∧
    w.cell? ⟨g, o + i * 3, none⟩ = some (.int .i64 r.k) ∧ w.cell? ⟨g, o + i * 3 + 1, none⟩ = some (.int .i64 r.s) ∧ w.cell? ⟨g, o + i * 3 + 2, none⟩ = some (.slice Ai r.l.length ci) ∧ Sl w Ai r.l.length ci (r.l.map v8) ∧ (0 < r.l.length → ∀ ad, Ai = some ad → F ad.block) := by
  obtain ⟨g, o, r, vs, e, hF, hg, hr, ⟨Ai, ci, rfl, hS, hA⟩, hc⟩ := h.at_ hi
  exact ⟨g, o, r, Ai, ci, e, hF, hg, hr, hc 0 _ rfl, hc 1 _ rfl, hc 2 _ rfl, hS, hA⟩
/-- A slice of records that came in. -/
theorem recs_of_sts {w : World} {a : Option Addr} {len cap : Nat} (h : IsSts [.num .i64, .num .i64, .row .u8] w a len cap) : ∃ rs, Rs recE (fun b => b < w.heap.size) w a len cap rs := by
  rcases h with ⟨rfl, rfl, rfl⟩ | ⟨ad, rfl, hl, hm, hc⟩
  · exact ⟨[], Rs.nil _ _ _⟩
  · have hm2 : cap ≤ 9223372036854775807 := by simpa [maxLen] using hm
    rcases Nat.eq_zero_or_pos len with h0 | h0
    · subst h0
      exact ⟨[], rfl, hl, hm2, fun h => absurd h (by omega)⟩
    · obtain ⟨g, o, sp⟩ := ad
      have hg : g < w.heap.size := by
        obtain ⟨v, cz, _⟩ := hc 0 h0 0 _ rfl
        by_cases hx : g < w.heap.size
        · exact hx
        · exfalso
          unfold World.cell? at cz
          rw [add_block, Array.getElem?_eq_none (by simp; omega)] at cz
          cases cz
      cases sp with
      | some sp =>
        exfalso
        obtain ⟨v, cz, _⟩ := hc 0 h0 0 _ rfl
        unfold World.cell? at cz
        split at cz
        · simp [Addr.add] at cz
        · cases cz
      | none =>
        obtain ⟨rs, hzl, hz⟩ := list_of (Q := fun i r => ∃ vs, recE.rd (fun b => b < w.heap.size) w vs r ∧ ∀ j v, vs[j]? = some v → w.cell? ⟨g, o + i * 3 + j, none⟩ = some v) len (fun i hi => by
          obtain ⟨v0, c0, st, rfl, _⟩ := hc i hi 0 _ rfl
          obtain ⟨v1, c1, rs, rfl, _⟩ := hc i hi 1 _ rfl
          obtain ⟨v2, c2, Ab, nb, cb, zz, rfl, hr⟩ := hc i hi 2 _ rfl
          obtain ⟨b, hb⟩ := hr.bytes
          obtain rfl : b.length = nb := hb.len8
          refine ⟨⟨st, rs, b⟩, _, ⟨Ab, cb, rfl, hb, fun hn ad e => ?_⟩, fun j v hj => ?_⟩
          · obtain ⟨ad', e', hb', _⟩ := hb.cells hn
            cases e.symm.trans e'
            exact hb'
          · rw [Addr.add_lit] at c0 c1 c2
            rcases j with _ | _ | _ | j
            · cases hj; exact c0
            · cases hj; rw [Nat.add_assoc]; exact c1
            · cases hj; rw [Nat.add_assoc]; exact c2
            · simp at hj)
        exact ⟨rs, hzl, hl, hm2, fun _ => ⟨g, o, rfl, hg, hg, hz⟩⟩
end Go.Wag
namespace Go.Proofs.YtjhpjhgofmlecaaDoor
open Go.RowKit Go.Wag
set_option linter.unusedVariables false

set_option maxHeartbeats 1000000 in
theorem rCheck_any (k s : Int) (A : Option Addr) (n c : Nat) (w : World) :
    Calls Tryd.prog 15 #[.agg #[.int .i64 k, .int .i64 s, .slice A n c]] w fun e w' => e = .returned (.int .i64 (rchkE k s n)) ∧ Below w.heap.size w w' := by
  go_enter Tryd.func15, Tryd.ntmps15
  go_wp2
  all_goals
    go_ret
    go_tidy
    refine ⟨congrArg (fun b => Ending.returned (.int .i64 b)) (?_ : (_ : Int) = _), (Below.refl _ _).alloc (Nat.le_refl _) _⟩
    unfold rchkE rchk
    split <;> simp_all <;> omega

def rsizeF (n : Int) : Int := if 0 ≤ n ∧ n ≤ 4096 then n + 20 else 0
theorem rSize_any (n : Int) (w : World) : Calls Tryd.prog 17 #[.int .i64 n] w fun e w' => e = .returned (.int .i64 (rsizeF n)) ∧ w = w' := by
  by_cases h : 0 ≤ n ∧ n ≤ 4096
  · have e1 : wrap64 (16 + n) = 16 + n := by unfold wrap64; omega
    have e2 : wrap64 (16 + n + 4) = 16 + n + 4 := by unfold wrap64; omega
    go_enter Tryd.func17, Tryd.ntmps17
    go_wp2
    all_goals
      go_ret
      exact ⟨ret_int (by rw [rsizeF, if_pos h]; omega), rfl⟩
  · rw [rsizeF, if_neg h]
    by_cases h0 : n < 0
    · go_enter Tryd.func17, Tryd.ntmps17
      go_wp2
      go_ret
      exact ⟨rfl, rfl⟩
    · have h1 : 4096 < n := by omega
      go_enter Tryd.func17, Tryd.ntmps17
      go_wp2
      go_ret
      exact ⟨rfl, rfl⟩
end Go.Proofs.YtjhpjhgofmlecaaDoor
