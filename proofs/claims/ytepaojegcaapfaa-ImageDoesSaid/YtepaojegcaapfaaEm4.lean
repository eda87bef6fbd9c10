/-
  Contracts of slices.Grow and slices.Concat at extents (three rows).
-/
import Derived.Test.YtepaojegcaapfaaEm1
import Derived.Lib.AppendZeros
import Derived.Deep.LoopGhost
namespace Go.Wag
open Go.RowKit
set_option linter.unusedVariables false
set_option maxRecDepth 20000
/-- The cells of a slice of extents. -/
theorem rs_cells {w : World} {F : Nat → Prop} {A : Option Addr} {n c : Nat} {xs : List Xp} (h : Rs extE F w A n c xs) (hn : 0 < n) : ∃ (g o : Nat) (vs : List Value), A = some ⟨g, o, none⟩ ∧ vs.length = n * 5 ∧ (∀ u ∈ vs, u.oneCell' = true) ∧ (∀ j u, vs[j]? = some u → w.cell? ⟨g, o + j, none⟩ = some u) ∧
    ∀ i x, xs[i]? = some x → ∃ us, extE.rd F w us x ∧ ∀ j v, us[j]? = some v → vs[i * 5 + j]? = some v := by
  obtain ⟨g, o, e, hF, hg, hc⟩ := h.cells hn
  have key : ∀ j, j < n * 5 → ∃ x us, xs[j / 5]? = some x ∧ extE.rd F w us x ∧ ∃ v, us[j % 5]? = some v ∧ w.cell? ⟨g, o + j, none⟩ = some v := fun j hj => by
    have hi : j / 5 < xs.length := by have := h.len; omega
    obtain ⟨us, hr, hv⟩ := hc (j / 5) xs[j / 5] (List.getElem?_eq_getElem hi)
    have hul : us.length = 5 := extE.len hr
    refine ⟨xs[j / 5], us, List.getElem?_eq_getElem hi, hr, us[j % 5]'(by omega), List.getElem?_eq_getElem _, ?_⟩
    have := hv (j % 5) _ (List.getElem?_eq_getElem (by omega))
    have e5 : extE.k = 5 := rfl
    rw [e5, Nat.add_assoc, show j / 5 * 5 + j % 5 = j by omega] at this
    exact this
  refine ⟨g, o, (List.range (n * 5)).map (fun j => (w.cell? ⟨g, o + j, none⟩).getD undef), e, by simp, fun u hu => ?_, fun j u hj => ?_, fun i x hx => ?_⟩
  · obtain ⟨j, hj, rfl⟩ := List.mem_map.1 hu
    obtain ⟨x, us, _, ⟨Ai, ci, rfl, _, _⟩, v, hv, hw⟩ := key j (List.mem_range.1 hj)
    rw [hw]
    exact one_ext _ _ _ _ _ _ _ v (List.mem_of_getElem? hv)
  · have hjl := (List.getElem?_eq_some_iff.1 hj).1
    simp only [List.length_map, List.length_range] at hjl
    obtain ⟨x, us, _, _, v, _, hw⟩ := key j hjl
    rw [List.getElem?_map, List.getElem?_range hjl, Option.map_some, hw] at hj
    cases hj
    exact hw
  · obtain ⟨us, hr, hv⟩ := hc i x hx
    refine ⟨us, hr, fun j v hj => ?_⟩
    have hul : us.length = 5 := extE.len hr
    have hjl := (List.getElem?_eq_some_iff.1 hj).1
    have hi := (List.getElem?_eq_some_iff.1 hx).1
    have hn2 := h.len
    have hw := hv j v hj
    have e5 : extE.k = 5 := rfl
    rw [e5, Nat.add_assoc] at hw
    rw [List.getElem?_map, List.getElem?_range (by omega), Option.map_some, hw]
    rfl
/-- A slice of extents more. -/
theorem Rq.appRs {P : Program} {F : Nat → Prop} {B : Nat} {t : TypeId} {w : World} {A : Option Addr} {n c : Nat} {xs : List Xp} (h : Rq extE F B t w A n c xs) {T ty : TypeId} {i0 : TypeInfo} {z : Value} {bytes : Nat} (hT : P.underlying T = some (.slice t)) (hi : P.info? t = some i0) (hz : i0.zero = some z) (hsz : i0.size = 5) (hby : i0.bytes = bytes) (hzs : z.cells.size = 5)
    (hB : B ≤ w.heap.size) {Ay : Option Addr} {m cy : Nat} {ys : List Xp} (hy : Rs extE (fun b => F b ∧ (Value.slice A n c).ownBlock ≠ some b) w Ay m cy ys) (hn : (n + m) * bytes ≤ 140737488355328) (hn2 : n + m ≤ 9223372036854775807) :
    ∃ A' c' w', (Builtin.append_ #[T, T] ty #[.slice A n c, .slice Ay m cy]).run P w = .ok (.slice A' (n + m) c') w' ∧ Rq extE F B t w' A' (n + m) c' (xs ++ ys) ∧ w.grownBy w' (Value.slice A n c).ownBlock ∧
      ((Value.slice A' (n + m) c').ownBlock = (Value.slice A n c).ownBlock ∨ (Value.slice A' (n + m) c').ownBlock = some w.heap.size) := by
  cases Ay with
  | none =>
    obtain rfl : m = 0 := by
      rcases Nat.eq_zero_or_pos m with h0 | h0
      · exact h0
      · obtain ⟨g, o, e, _⟩ := hy.cells h0
        cases e
    obtain rfl : ys = [] := List.length_eq_zero_iff.1 hy.len
    obtain ⟨cs, hc, _⟩ := id h.row
    refine ⟨A, c, w, ?_, by simpa using h, World.grownBy.refl _ _, .inl rfl⟩
    rcases hc.2 with ⟨hv, rfl⟩ | ⟨g, cap, cur, hv, _, _, hnc, _⟩
    · obtain ⟨rfl, -, rfl⟩ : A = none ∧ 0 = 0 ∧ c = 0 := by simpa using hv
      simp [Builtin.append_, run_underlying hT, sizeOf, typeInfo, hi, Builtin.lenOf, Builtin.firstCells]
    · obtain ⟨rfl, rfl⟩ : A = some ⟨g, 0, none⟩ ∧ c = cap := by simpa using hv
      simp [Builtin.append_, run_underlying hT, sizeOf, typeInfo, hi, Builtin.lenOf, Builtin.firstCells, hnc, storeCells]
  | some ad =>
    obtain ⟨vs, hvl, h1, hvc, hvx⟩ : ∃ vs : List Value, vs.length = m * 5 ∧ (∀ u ∈ vs, u.oneCell' = true) ∧ (∀ j u, vs[j]? = some u → w.cell? (ad.add j) = some u) ∧
        ∀ i x, ys[i]? = some x → ∃ us, extE.rd (fun b => F b ∧ (Value.slice A n c).ownBlock ≠ some b) w us x ∧ ∀ j v, us[j]? = some v → vs[i * 5 + j]? = some v := by
      rcases Nat.eq_zero_or_pos m with h0 | h0
      · subst h0
        obtain rfl : ys = [] := List.length_eq_zero_iff.1 hy.len
        exact ⟨[], by simp, by simp, by simp, by simp⟩
      · obtain ⟨gy, oy, vs, e, hvl, h1, hvc, hvx⟩ := rs_cells hy h0
        cases e
        refine ⟨vs, hvl, h1, fun j u hu => ?_, hvx⟩
        have e : ((⟨gy, oy, none⟩ : Addr).add j) = ⟨gy, oy + j, none⟩ := by unfold Addr.add; split <;> simp_all
        rw [e]
        exact hvc j u hu
    obtain ⟨cs, hc, hz0⟩ := h.row
    obtain ⟨v', w', hr, h2, h3, _, h5⟩ := run_append_own_at (P := P) w B T ty t i0 z 5 bytes hT hi hz hsz hby hzs (by decide) (.slice A n c) n cs hc ad m cy vs hvl hvc h1 (by simp only [maxLen]; omega) hn hB
    obtain ⟨A', c', rfl⟩ := own_form h2
    have hxl : cs.length = n * 5 := hc.1
    have hl := h.len
    have step : ∀ {us : List Value} {y : Xp}, extE.rd (fun b => F b ∧ (Value.slice A n c).ownBlock ≠ some b) w us y → extE.rd (fun b => F b ∧ (Value.slice A' (n + m) c').ownBlock ≠ some b) w' us y := fun {us y} hy => by
      have k1 : extE.rd (fun b => F b ∧ (Value.slice A n c).ownBlock ≠ some b ∧ (Value.slice A' (n + m) c').ownBlock ≠ some b) w us y := extE.imp hy (fun b hb hh => ⟨hh.1, hh.2, by
        rcases h5 with e | e
        · rw [e]; exact hh.2
        · rw [e]; intro e2; have := Option.some.inj e2; omega⟩)
      exact extE.imp (extE.keep k1 h3.size (fun p hp hF => World.cell?_of_block (h3.block _ hp (fun e => hF.2.1 e.symm)))) (fun b _ hh => ⟨hh.1, hh.2.2⟩)
    refine ⟨A', c', w', hr, ⟨by rw [List.length_append, hl, hy.len], _, h2, fun i y hi => ?_⟩, h3, h5⟩
    by_cases hin : i < n
    · rw [List.getElem?_append_left (by omega)] at hi
      obtain ⟨us, hy, hv⟩ := hz0 i y hi
      refine ⟨us, step hy, fun j v hj => ?_⟩
      have hul : us.length = 5 := extE.len hy
      have hjl := (List.getElem?_eq_some_iff.1 hj).1
      have e5 : extE.k = 5 := rfl
      rw [e5, List.getElem?_append_left (by omega)]
      exact hv j v hj
    · rw [List.getElem?_append_right (by omega), hl] at hi
      obtain ⟨us, hy, hv⟩ := hvx (i - n) y hi
      refine ⟨us, step hy, fun j v hj => ?_⟩
      have e5 : extE.k = 5 := rfl
      rw [e5, List.getElem?_append_right (by omega), hxl, show i * 5 + j - n * 5 = (i - n) * 5 + j by omega]
      exact hv j v hj
theorem own_zero5 {w : World} {e : TypeId} {cs : Array Value} {c : Nat} (hc : cs.size = c * 5) (hm : c ≤ 9223372036854775807) : (w.drew.alloc (.cells cs e)).ownsRow w.heap.size e 5 (.slice (some ⟨w.heap.size, 0, none⟩) 0 c) 0 [] :=
  ⟨by simp, .inr ⟨w.heap.size, c, cs, rfl, Nat.le_refl _, heap_alloc_new w.drew _, by omega, by simp only [maxLen]; omega, by simpa using hc, by simp⟩⟩
def sumN (n : Nat → Nat) : Nat → Nat
  | 0 => 0
  | k + 1 => sumN n k + n k
def catN (L : Nat → List Xp) : Nat → List Xp
  | 0 => []
  | k + 1 => catN L k ++ L k
theorem catN_len {n : Nat → Nat} {L : Nat → List Xp} : ∀ (k : Nat), (∀ j, j < k → (L j).length = n j) → (catN L k).length = sumN n k
  | 0, _ => rfl
  | k + 1, h => by rw [catN, sumN, List.length_append, catN_len k (fun j hj => h j (by omega)), h k (by omega)]
theorem sumN_le {n : Nat → Nat} : ∀ (k : Nat), (∀ j, j < k → n j ≤ 1000000000) → sumN n k ≤ 1000000000 * k
  | 0, _ => by simp [sumN]
  | k + 1, h => by
    have := sumN_le k (fun j hj => h j (by omega))
    have := h k (by omega)
    rw [sumN]
    omega
end Go.Wag
namespace Go.Proofs.Ytepaojegcaapfaa
open Go.RowKit Go.Wag
set_option linter.unusedVariables false
set_option linter.unusedSimpArgs false
set_option maxRecDepth 20000
theorem un3x : Try.prog.underlying 3 = some (.int .i64) := by kernel_rfl
theorem eGrowX_any (F : Nat → Prop) (s : Nat) (w : World) (hs : s ≤ 100000000000) :
    Calls Try.prog 89 #[.slice none 0 0, .int .i64 (s : Int)] w fun e w' => ∃ A c, e = .returned (.slice A 0 c) ∧ Rq extE F w.heap.size 38 w' A 0 c [] ∧ Below w.heap.size w w' := by
  have h1 : ¬ ((s : Int) < 0) := by omega
  by_cases h0 : s = 0
  · subst h0
    go_enter Try.func89, Try.ntmps89
    go_wp2
    go_ret
    exact ⟨none, 0, rfl, Rq.nil _ _ _ _ _, Below.refl _ _⟩
  · have hp : (s : Int) > 0 := by omega
    have e0 : wrap64 ((s : Int) - 0) = s := by unfold wrap64; omega
    obtain ⟨i0, hi, hz0, hz1, hz2⟩ := iExt
    have hr := Lib.run_append_nil_zeros (P := Try.prog) w 22 3 22 38 i0 (.agg #[.int .i64 0, .int .i64 0, .int .i64 0, .int .i64 0, .slice none 0 0]) .i64 .i64 Try.underlying22 un3x hi hz0 s (by omega) (by omega) (by omega) (by rw [hz2]; omega)
    have hcs : (Value.agg #[.int .i64 0, .int .i64 0, .int .i64 0, .int .i64 0, .slice none 0 0]).cells.size = 5 := rfl
    generalize Value.agg #[.int .i64 0, .int .i64 0, .int .i64 0, .int .i64 0, .slice none 0 0] = z at *
    have hO := own_zero5 (w := w) (e := 38) (c := grownCap w s 0 38) (cs := Builtin.zeroCells z.cells s ++ Builtin.zeroCells z.cells (grownCap w s 0 38 - s)) (by
      have := grownCap_ge w s 0 38
      simp [Builtin.zeroCells, hcs]
      omega) (by have := grownCap_le_maxLen w s 0 38 (by simp only [maxLen]; omega); simpa [maxLen] using this)
    have hb : Below w.heap.size w (w.drew.alloc (.cells (Builtin.zeroCells z.cells s ++ Builtin.zeroCells z.cells (grownCap w s 0 38 - s)) 38)) := ((Below.refl w.heap.size w).drew).alloc (by simp) _
    have hc0 : ¬ ((grownCap w s 0 38 : Nat) : Int) < 0 := by omega
    generalize hw : w.drew.alloc (.cells (Builtin.zeroCells z.cells s ++ Builtin.zeroCells z.cells (grownCap w s 0 38 - s)) 38) = w2 at *
    generalize grownCap w s 0 38 = cp at *
    go_enter Try.func89, Try.ntmps89
    go_wp2_with (at_builtin; refine Lib.wpList_append_run _ rfl _ _ _ _ rfl _ _ rfl rfl _ _ hr ?_)
    go_ret
    exact ⟨_, _, rfl, ⟨rfl, [], hO, fun i x h => by simp at h⟩, hb⟩
/-- Rows behind one another, in a row of their own. -/
def CatPost (F : Nat → Prop) (w : World) (ys : List Xp) (e : Ending) (w' : World) : Prop := ∃ A n c, Hid (ys.length = n) ∧ e = .returned (.slice A n c) ∧ Rq extE (fun b => F b ∧ b < w.heap.size) w.heap.size 38 w' A n c ys ∧ Below w.heap.size w w'
set_option maxHeartbeats 2000000 in
theorem eConcatX_any {F : Nat → Prop} (gr : Nat) (A : Nat → Option Addr) (n c : Nat → Nat) (L : Nat → List Xp) (w : World) (V : ∀ k, k < 3 → w.cell? ⟨gr, k, none⟩ = some (.slice (A k) (n k) (c k))) (hgr : gr < w.heap.size) (h : ∀ k, k < 3 → Rs extE F w (A k) (n k) (c k) (L k)) (hn : ∀ k, k < 3 → n k ≤ 1000000000) :
    Calls Try.prog 57 #[.slice (some ⟨gr, 0, none⟩) 3 3] w (CatPost F w (catN L 3)) := by
  obtain ⟨i0, hi, hz0, hz1, hz2⟩ := iExt
  go_enter Try.func57, Try.ntmps57
  go_wp2_with fail
  go_loopg [3, 11] 3 (fun g x i wr => ∃ k : Nat, k + g = 3 ∧ x = .int .i64 ((sumN n k : Nat) : Int) ∧ i = .int .i64 (k : Int) ∧ w = wr)
  case atStart => exact ⟨0, by omega, rfl, rfl, rfl⟩
  case round =>
    obtain ⟨k, hk, rfl, rfl, rfl⟩ := hrel
    by_cases hlt : (k : Int) < 3
    · obtain ⟨g, rfl⟩ : ∃ g, gk = g + 1 := ⟨gk - 1, by omega⟩
      have hk3 : k < 3 := by omega
      have q := V k hk3
      have hs0 := sumN_le (n := n) k (fun j hj => hn j (by omega))
      have hs1 := hn k hk3
      have e1 : wrap64 (((sumN n k : Nat) : Int) + ((n k : Nat) : Int)) = ((sumN n (k + 1) : Nat) : Int) := by rw [sumN]; unfold wrap64; omega
      have e2 : ¬ (((sumN n (k + 1) : Nat) : Int)) < 0 := by omega
      clear hs0 hs1
      go_wp2
      go_roundg g
      case measure => omega
      case rel => exact ⟨k + 1, by omega, rfl, by first | rfl | (simp; done), rfl⟩
    · obtain rfl : k = 3 := by omega
      have hs3 := sumN_le (n := n) 3 hn
      have hC := eGrowX_any (fun b => F b ∧ b < w.heap.size) (sumN n 3) w (by omega)
      generalize sumN n 3 = s at *
      go_wp2_with fail
      refine hC.mono ?_
      clear hC
      rintro e w1 ⟨A1, c1, rfl, O1, b1⟩
      go_wp2_with fail
      go_loopg [6, 27] 3 (fun g x i wr => ∃ (k : Nat) (Ar : Option Addr) (nr cr : Nat), k + g = 3 ∧ x = .slice Ar nr cr ∧ i = .int .i64 (k : Int) ∧ nr ≤ 1000000000 * k ∧ Rq extE (fun b => F b ∧ b < w.heap.size) w.heap.size 38 wr Ar nr cr (catN L k) ∧ Below w.heap.size w wr)
      case atStart => exact ⟨0, _, _, _, by omega, rfl, rfl, by omega, O1, b1⟩
      case round =>
        obtain ⟨k, Ar, nr, cr, hk, rfl, rfl, hnr, O, bb⟩ := hrel
        by_cases hlt : (k : Int) < 3
        · obtain ⟨g, rfl⟩ : ∃ g, gk = g + 1 := ⟨gk - 1, by omega⟩
          have hk3 : k < 3 := by omega
          have q := (bb.cell (p := ⟨gr, k, none⟩) hgr).trans (V k hk3)
          have hlt2 := O.lt
          have hs := (h k hk3).below bb
          have hs2 := ((h k hk3).imp (F' := fun b => (F b ∧ b < w.heap.size) ∧ (Value.slice Ar nr cr).ownBlock ≠ some b) (fun b hb hF => ⟨⟨hF, hb⟩, fun e => by have := (hlt2 b e).1; omega⟩)).below bb
          have hnk := hn k hk3
          obtain ⟨A5, c5, w5, hr, R5, gr5, hlies⟩ := O.appRs (P := Try.prog) (T := 22) (ty := 22) Try.underlying22 hi hz0 hz1 hz2 rfl bb.size hs2 (by omega) (by omega)
          have bb6 := bb.grown gr5 bb.size (fun x hx => (hlt2 x hx).1)
          clear gr5 hlies hs hs2 hlt2 O bb
          go_wp2_with (at_builtin; refine wpList_run rfl (.tmp 31) (.tmp 32) 22 rfl rfl rfl hr ?_; intro _)
          go_roundg g
          case measure => omega
          case rel => exact ⟨k + 1, A5, _, c5, by omega, rfl, by first | rfl | (simp; done), by omega, R5, bb6⟩
        · obtain rfl : k = 3 := by omega
          have hl3 := Lib.hid O.len
          go_wp2
          go_ret
          exact ⟨Ar, nr, cr, hl3, rfl, O, bb⟩
end Go.Proofs.Ytepaojegcaapfaa
