/-
  A store into a row of one's own. No program is named here.
-/
import Derived.Test.YtagageidiebogaaWords
import Derived.Laws.OwnMore
namespace Go.Wag

/-- The cell at k of a row of one's own: what it holds, that it may be written, and the row behind a store. -/
theorem Own.store {base : Nat} {e : TypeId} {w0 w : World} {v0 : Value} {A : Option Addr} {n c : Nat} {xs : List Value} (h : Own base e w0 w v0 (.slice A n c) n xs) {k : Nat} (hk : k < n) :
    ∃ g u, A = some ⟨g, 0, none⟩ ∧ xs[k]? = some u ∧ w.cell? ⟨g, k, none⟩ = some u ∧ w.frozen? ⟨g, k, none⟩ = false ∧ ∀ x, Own base e w0 (w.setCell ⟨g, k, none⟩ x) v0 (.slice A n c) n (xs.set k x) := by
  obtain ⟨hlen, hn | ⟨g, cap, cur, hv, hbg, hg, hnc, hcm, hcs, ht⟩⟩ := id h.own
  · exact absurd hn.2 (by omega)
  · obtain ⟨rfl, rfl⟩ : A = some ⟨g, 0, none⟩ ∧ c = cap := by simpa using hv
    have hkl : k < xs.length := by rw [Nat.mul_one] at hlen; omega
    refine ⟨g, xs[k], rfl, List.getElem?_eq_getElem hkl, ?_, ?_, fun x => ?_⟩
    · have := h.own.cells (g := g) rfl k _ (List.getElem?_eq_getElem hkl)
      have e2 : ((⟨g, 0, none⟩ : Addr).add k) = ⟨g, k, none⟩ := by unfold Addr.add; split <;> simp_all
      rwa [e2] at this
    · exact h.own.frozenAt k
    · obtain ⟨h1, h2⟩ := h.own.stored k x
      exact h.step ⟨h1, h2, .inl rfl, h.hbase⟩
end Go.Wag
