/-
  A range over what joined hands back: the law for the caller.
-/
import Derived.Test.YtepaojegcaapfaaEm5
import Derived.RangeFuncFrom
namespace Go.Wag
open Go.RowKit
set_option linter.unusedVariables false
theorem cell_turn {W : World} {l : Nat} {o o' : Obj} (h : W.heap[l]? = some o) (ho : o.isCells = false) (ho' : o'.isCells = false) (p : Addr) : (W.putObj l o').cell? p = W.cell? p := by
  by_cases e : p.block = l
  · have h1 : (W.putObj l o').heap[p.block]? = some o' := by rw [e]; exact World.putObj_heap_same (Array.getElem?_eq_some_iff.1 h).1
    have h2 : W.heap[p.block]? = some o := by rw [e]; exact h
    unfold World.cell?
    rw [h1, h2]
    cases o with
    | cells => simp [Obj.isCells] at ho
    | _ => cases o' with
      | cells => simp [Obj.isCells] at ho'
      | _ => rfl
  · unfold World.cell?
    rw [World.putObj_heap_other e]
theorem Blk.turn {W : World} {l k : Nat} {o : Obj} {vs : Array Value} {t : TypeId} (B : Blk W k vs t) (h : W.heap[l]? = some o) (ho : o.isCells = false) (o' : Obj) : Blk (W.putObj l o') k vs t := by
  refine (World.putObj_heap_other (fun e => ?_)).trans B
  subst e
  have B' : W.heap[k]? = some (.cells vs t) := B
  rw [B'] at h
  cases h
  simp [Obj.isCells] at ho
theorem Rs.turn {α : Type} {E : Elt α} {F : Nat → Prop} {W : World} {A : Option Addr} {n c : Nat} {xs : List α} (R : Rs E F W A n c xs) {l : Nat} {o o' : Obj} (h : W.heap[l]? = some o) (ho : o.isCells = false) (ho' : o'.isCells = false) : Rs E F (W.putObj l o') A n c xs :=
  R.keep (by simp) fun p _ _ => cell_turn h ho ho' p
theorem Rq.turn {α : Type} {E : Elt α} {F : Nat → Prop} {B : Nat} {t : TypeId} {W : World} {A : Option Addr} {n c : Nat} {xs : List α} (R : Rq E F B t W A n c xs) {l : Nat} {o o' : Obj} (h : W.heap[l]? = some o) (ho : o.isCells = false) (ho' : o'.isCells = false) : Rq E F B t (W.putObj l o') A n c xs := by
  obtain ⟨cs, hx, hz⟩ := R.row
  refine ⟨R.len, cs, hx.kept (grownBy_putObj' W l o') ?_, fun i x hi => ?_⟩
  · cases hv : Value.ownBlock (.slice A n c) with
    | none => exact .inl rfl
    | some b =>
      refine .inr (fun e => ?_)
      obtain rfl : b = l := Option.some.inj e
      rcases hx.2 with ⟨hv2, _⟩ | ⟨g, cap, cur, hv2, _, hg, _⟩
      · rw [hv2] at hv
        cases hv
      · rw [hv2] at hv
        obtain rfl : g = b := Option.some.inj hv
        rw [hg] at h
        cases h
        simp [Obj.isCells] at ho
  · obtain ⟨vs, hr, hv⟩ := hz i x hi
    exact ⟨vs, E.keep hr (by simp) (fun p _ _ => cell_turn h ho ho' p), hv⟩
theorem below_turn {B : Nat} {w W : World} {l : Nat} (b : Below B w W) (hB : B ≤ W.heap.size) (hl : B ≤ l) (o' : Obj) : Below B w (W.putObj l o') :=
  b.grown (grownBy_putObj' W l o') hB (fun k e => by cases e; exact hl)
end Go.Wag
namespace Go.Proofs.Ytepaojegcaapfaa
open Go.RowKit Go.Wag
set_option linter.unusedVariables false
set_option linter.unusedSimpArgs false
set_option maxRecDepth 20000
set_option maxHeartbeats 1000000 in
theorem range_joined {g : Operand} {ps : Array Tmp} {assign body : Code} {Q : Exit → Act → World → Prop} {a : Act} {w : World} (bl : Nat) (Fd : Nat → Prop) (xs : List Xp) (A : Option Addr) (n c : Nat)
    (hg : a.eval g = .func (.func 90) #[] #[.pointer (some ⟨bl, 0, none⟩)]) (hps : ps.size = 1) (hla : ∀ x ∈ xs, x.la ≤ 9223372036854775807) (hn : n ≤ 1000000000)
    (I : List Xp → World → Prop) (hI1 : ∀ pre W, I pre W → W.cell? ⟨bl, 0, none⟩ = some (.slice A n c) ∧ bl < W.heap.size ∧ Rs extE Fd W A n c xs)
    (hI2 : ∀ pre W l o o', I pre W → w.heap.size ≤ l → W.heap[l]? = some o → o.isCells = false → o'.isCells = false → I pre (W.putObj l o'))
    (hI4 : ∀ pre W W', I pre W → Below W.heap.size W W' → I pre W') (h0 : I [] w)
    (hround : ∀ l pre (x : Xp) Ai mi ci W2 W1, I pre W2 → Below W2.heap.size W2 W1 → HandOn Fd W2 W1 x Ai mi ci → pre.length < n → w.heap.size ≤ l → (∃ o, W1.heap[l]? = some o ∧ o.isCells = false) →
      assign.wpIn (Fence.wide.inRound l) 2 Try.prog (Exit.then (fun a₁ w₁ => KeepsOthers W1 w₁ ∧ ∀ o', o'.isCells = false →
        body.wpIn (Fence.wide.inRound l) 2 Try.prog (fun e _ W' => e = .normal ∧ KeepsOthers (w₁.putObj l o') W' ∧ I (pre ++ [x]) W') a₁ (w₁.putObj l o')) (fun _ _ _ => False))
        { tmps := (ps.zip #[Value.agg #[.int .i64 x.la, .int .i64 x.n, .int .i64 x.k, .int .i64 x.g, .slice Ai mi ci]]).foldl (fun t (p, v) => t.setIfInBounds p v) a.tmps, defers := [] } W1)
    (hdone : ∀ (D : Nat) (W : World), w.heap.size ≤ D → I (joinL xs) W → W.heap[D]? = some (.deferred (some [])) → Q .normal { a with defers := { target := .collected D, args := #[] } :: a.defers } W) :
    (Code.rangeFunc g ps assign body).wp Try.prog Q a w := by
  refine (wpIn_wide (n := 4)).1 (wpIn_rangeFunc ?_)
  intro fn _
  obtain ⟨rec, hrec⟩ : ∃ rec : LoopState → Loop, rec = fun st => { state := st, pending := none, fn, tmps := a.tmps, params := ps, assign, body, defers := w.heap.size } := ⟨_, rfl⟩
  obtain ⟨W1, hW1⟩ : ∃ W1, (w.alloc (.deferred (some []))).alloc (.loop (rec .ready)) = W1 := ⟨_, rfl⟩
  have hL1 : W1.heap[w.heap.size + 1]? = some (.loop (rec .ready)) := by
    rw [← hW1]
    have := World.alloc_heap_new (w.alloc (.deferred (some []))) (.loop (rec .ready))
    rwa [World.size_alloc] at this
  have hK1 : W1.heap[w.heap.size]? = some (.deferred (some [])) := by
    rw [← hW1]
    exact (Below.heap_alloc _ _ _ (by simp)).trans (World.alloc_heap_new w _)
  have hI1' : I [] W1 := by
    rw [← hW1]
    exact hI4 _ _ _ h0 (((Below.refl _ w).alloc (Nat.le_refl _) _).alloc (by simp) _)
  refine ⟨w.heap.size + 1, [{ target := .collected w.heap.size, args := #[] }], W1, { target := .fn (.func 90) #[.pointer (some ⟨bl, 0, none⟩)], args := #[.func (.yield (w.heap.size + 1)) #[] #[]] }, W1, 90,
    #[.func (.yield (w.heap.size + 1)) #[] #[]] ++ #[.pointer (some ⟨bl, 0, none⟩)], W1, ?_, ?_, fun _ _ => trivial, ?_, fun _ => by omega, ?_⟩
  · rw [← hW1, hrec]
    exact run_enterLoop_outer _ _ _ _ _
  · simp only [resolve, hg]
    simp [go_sem]
  · have eg : ∀ args w, (callFunc 90 args).run Try.prog w = .ok (.enter 90 args) w := fun _ _ => by rfl
    simp [invoke, go_sem, eg]
  · refine CallsIn.mono (joined1_any 3 (w.heap.size + 1) bl Fd xs A n c (fun pre W => I pre W ∧ W.heap[w.heap.size + 1]? = some (.loop (rec .ready)) ∧ W.heap[w.heap.size]? = some (.deferred (some []))) (by omega) (fun pre W h => hI1 pre W h.1) hla hn ?_ W1 ⟨hI1', hL1, hK1⟩) ?_
    · rintro pre x Ai mi ci W2 W3 ⟨hi, hl, hk⟩ hb hH hlen
      have hl3 : W3.heap[w.heap.size + 1]? = some (.loop (rec .ready)) := (hb.block _ (Array.getElem?_eq_some_iff.1 hl).1).trans hl
      have hk3 : W3.heap[w.heap.size]? = some (.deferred (some [])) := (hb.block _ (Array.getElem?_eq_some_iff.1 hk).1).trans hk
      have hy := run_yield (P := Try.prog) (args := #[Value.agg #[.int .i64 x.la, .int .i64 x.n, .int .i64 x.k, .int .i64 x.g, .slice Ai mi ci]]) hl3 (by rw [hrec]; exact hps.symm)
      rw [hrec] at hy
      refine ⟨fn, _, assign, body, hy, roundIn_of_wpIn trivial ?_⟩
      refine wpIn_mono (hround (w.heap.size + 1) pre x Ai mi ci W2 W3 hi hb hH hlen (by omega) ⟨_, hl3, rfl⟩) ?_
      rintro e a1 w1 hp
      cases e with
      | normal =>
        obtain ⟨hk1, hp⟩ := hp
        have hl1 := hk1.same _ _ hl3 rfl
        have hkd1 := hk1.same _ _ hk3 rfl
        refine ⟨_, run_beginRound hl1 (by rw [hrec]), ?_⟩
        refine wpIn_mono (hp _ rfl) ?_
        rintro e a4 W4 ⟨rfl, hk4, hi4⟩
        have hl2 : (w1.putObj (w.heap.size + 1) (.loop { rec .ready with state := .busy })).heap[w.heap.size + 1]? = some (.loop { rec .ready with state := .busy }) := World.putObj_heap_same (Array.getElem?_eq_some_iff.1 hl1).1
        have hkd2 : (w1.putObj (w.heap.size + 1) (.loop { rec .ready with state := .busy })).heap[w.heap.size]? = some (.deferred (some [])) := (World.putObj_heap_other (by omega)).trans hkd1
        have hl4 := hk4.same _ _ hl2 rfl
        have hkd4 := hk4.same _ _ hkd2 rfl
        have hre := run_endRound (P := Try.prog) none hl4
        have hl5 : (W4.putObj (w.heap.size + 1) (.loop (rec .ready))).heap[w.heap.size + 1]? = some (.loop (rec .ready)) := World.putObj_heap_same (Array.getElem?_eq_some_iff.1 hl4).1
        have hkd5 : (W4.putObj (w.heap.size + 1) (.loop (rec .ready))).heap[w.heap.size]? = some (.deferred (some [])) := (World.putObj_heap_other (by omega)).trans hkd4
        have hi5 := hI2 _ _ (w.heap.size + 1) _ (.loop (rec .ready)) hi4 (by omega) hl4 rfl rfl
        refine ⟨_, _, hre, rfl, ?_⟩
        rw [hrec] at hi5 hl5 hkd5 ⊢
        exact ⟨hi5, hl5, hkd5⟩
      | ret => exact hp.elim
      | exit id => exact hp.elim
      | goto t => exact hp.elim
      | panic ch => exact hp.elim
      | outgrown => exact hp.elim
    · rintro e W' ⟨⟨v, rfl⟩, W2, ⟨hi, hl, hk⟩, hb⟩
      have hl3 : W'.heap[w.heap.size + 1]? = some (.loop (rec .ready)) := (hb.block _ (Array.getElem?_eq_some_iff.1 hl).1).trans hl
      have hk3 : W'.heap[w.heap.size]? = some (.deferred (some [])) := (hb.block _ (Array.getElem?_eq_some_iff.1 hk).1).trans hk
      have hi3 := hI4 _ _ _ hi hb
      have hre := run_endLoop (P := Try.prog) hl3 (by rw [hrec]; simp)
      refine ⟨none, _, by rw [hrec] at hre; exact hre, ?_⟩
      exact hdone w.heap.size _ (Nat.le_refl _) (hI2 _ _ (w.heap.size + 1) _ _ hi3 (by omega) hl3 rfl rfl) ((World.putObj_heap_other (by omega)).trans hk3)
end Go.Proofs.Ytepaojegcaapfaa
