/-
  Contracts of slices.IndexFunc and slices.DeleteFunc at extents, and of package extmap's Since and Range (written by gen_em3.py).
-/
import Derived.Test.YtepaojegcaapfaaEm2
namespace Go.Wag
open Go.RowKit
set_option linter.unusedVariables false
set_option maxRecDepth 20000
theorem setL_cells (g : Nat) : ∀ (vs : List Value) (o : Nat) (w : World), setL w g o vs = w.setCells g o vs
  | [], _, _ => rfl
  | v :: vs, o, w => by
    rw [setL, World.setCells]
    exact setL_cells g vs (o + 1) _
theorem setL_below {B g : Nat} (hB : B ≤ g) {w0 : World} : ∀ (vs : List Value) (o : Nat) {w : World}, Below B w0 w → Below B w0 (setL w g o vs)
  | [], _, _, h => h
  | v :: vs, o, _, h => setL_below hB vs (o + 1) (h.setCell (p := ⟨g, o, none⟩) hB v)
/-- 'clear' on a slice of extents. -/
theorem run_clear_five {P : Program} (w : World) (t e ty : TypeId) (ht : P.underlying t = some (.slice e)) (hv : ∀ w, (zeroValue e).run P w = .ok (.agg #[.int .i64 0, .int .i64 0, .int .i64 0, .int .i64 0, .slice none 0 0]) w) {g o n c : Nat} {cs : Array Value} {et : TypeId} (B : Blk w g cs et) (hn : o + n * 5 ≤ cs.size) :
    ∃ vs : List Value, vs.length = n * 5 ∧ (Builtin.clear_ #[t] ty #[.slice (some ⟨g, o, none⟩) n c]).run P w = .ok (.tuple #[]) (setL w g o vs) := by
  let L := (Builtin.zeroCells #[Value.int .i64 0, .int .i64 0, .int .i64 0, .int .i64 0, .slice none 0 0] n).toList
  have hL : L.length = n * 5 := by simp [L, Builtin.zeroCells]
  have hz : (Value.agg #[.int .i64 0, .int .i64 0, .int .i64 0, .int .i64 0, .slice none 0 0]).cells = #[Value.int .i64 0, .int .i64 0, .int .i64 0, .int .i64 0, .slice none 0 0] := rfl
  have h1 : ∀ v ∈ L, v.oneCell' = true := by
    intro v hv
    obtain ⟨i, hi, rfl⟩ := List.mem_iff_getElem.1 hv
    have e : L[i] = (#[Value.int .i64 0, .int .i64 0, .int .i64 0, .int .i64 0, .slice none 0 0] : Array Value)[i % 5]! := by
      simp [L, Builtin.zeroCells]
    rw [e]
    have h5 : i % 5 < 5 := Nat.mod_lt _ (by decide)
    generalize i % 5 = j at h5
    match j, h5 with
    | 0, _ => rfl
    | 1, _ => rfl
    | 2, _ => rfl
    | 3, _ => rfl
    | 4, _ => rfl
  have hst := run_storeCells_cells (P := P) g o L 0 w (fun j hj => by
    rw [B.cell, Array.getElem?_eq_getElem (by omega)]
    rfl) (fun j hj => B.frozen _) h1
  simp only [Nat.add_zero] at hst
  rw [← setL_cells] at hst
  refine ⟨L, hL, ?_⟩
  rcases Nat.eq_zero_or_pos n with h0 | h0
  · subst h0
    have : L = [] := List.length_eq_zero_iff.1 (by simpa using hL)
    rw [this, setL]
    simp [Builtin.clear_, run_underlying ht]
  · obtain ⟨m, rfl⟩ : ∃ m, n = m + 1 := ⟨n - 1, by omega⟩
    simp only [Builtin.clear_]
    simp [run_underlying ht, hv]
    show (Result.andThen ((storeCells ⟨g, o, none⟩ L 0).run P w) _) = _
    rw [hst]
    rfl
/-- Where the first one of them stands. -/
def idxE (p : Xp → Bool) (zs : List Xp) : Int := (zs.findIdx? p).elim (-1) (fun i => (i : Int))
theorem idxE_at {p : Xp → Bool} {zs : List Xp} {k : Nat} {z : Xp} (hz : zs[k]? = some z) (hp : p z = true) (hn : ∀ i x, i < k → zs[i]? = some x → p x = false) : idxE p zs = k := by
  obtain ⟨hk, hkz⟩ := List.getElem?_eq_some_iff.1 hz
  have : zs.findIdx? p = some k := by
    rw [List.findIdx?_eq_some_iff_getElem]
    refine ⟨hk, by rw [hkz]; exact hp, fun j hj => ?_⟩
    rw [hn j _ hj (List.getElem?_eq_getElem (by omega))]
    simp
  rw [idxE, this]
  rfl
theorem idxE_none {p : Xp → Bool} {zs : List Xp} (hn : ∀ z ∈ zs, p z = false) : idxE p zs = -1 := by
  have : zs.findIdx? p = none := by
    rw [List.findIdx?_eq_none_iff]
    intro z hz
    rw [hn z hz]
  rw [idxE, this]
  rfl
theorem idxE_cases (p : Xp → Bool) (zs : List Xp) : (idxE p zs = -1 ∧ ∀ z ∈ zs, p z = false) ∨ ∃ (k : Nat) (z : Xp), idxE p zs = (k : Int) ∧ k < zs.length ∧ zs[k]? = some z ∧ p z = true ∧ ∀ i x, i < k → zs[i]? = some x → p x = false := by
  cases h : zs.findIdx? p with
  | none =>
    rw [List.findIdx?_eq_none_iff] at h
    exact .inl ⟨idxE_none (fun z hz => by simpa using h z hz), fun z hz => by simpa using h z hz⟩
  | some k =>
    have h0 := h
    rw [List.findIdx?_eq_some_iff_getElem] at h
    obtain ⟨hk, h1, h2⟩ := h
    refine .inr ⟨k, zs[k], by rw [idxE, h0]; rfl, hk, List.getElem?_eq_getElem hk, h1, fun i x hi hx => ?_⟩
    obtain ⟨hi2, rfl⟩ := List.getElem?_eq_some_iff.1 hx
    simpa using h2 i hi
/-- What is kept of the first j. -/
def keptL (p : Xp → Bool) (zs : List Xp) (j : Nat) : List Xp := (zs.take j).filter fun x => !p x
theorem kept_del {p : Xp → Bool} {zs : List Xp} {j : Nat} {x : Xp} (hz : zs[j]? = some x) (hp : p x = true) : keptL p zs (j + 1) = keptL p zs j := by
  rw [keptL, take_one hz, List.filter_append]
  simp [hp, keptL]
theorem kept_add {p : Xp → Bool} {zs : List Xp} {j : Nat} {x : Xp} (hz : zs[j]? = some x) (hp : p x = false) : keptL p zs (j + 1) = keptL p zs j ++ [x] := by
  rw [keptL, take_one hz, List.filter_append]
  simp [hp, keptL]
theorem kept_first {p : Xp → Bool} {zs : List Xp} {k : Nat} {x : Xp} (hz : zs[k]? = some x) (hp : p x = true) (hn : ∀ i x, i < k → zs[i]? = some x → p x = false) : keptL p zs (k + 1) = zs.take k := by
  rw [kept_del hz hp, keptL, List.filter_eq_self]
  intro y hy
  obtain ⟨i, hi, rfl⟩ := List.mem_iff_getElem.1 hy
  rw [List.length_take] at hi
  rw [List.getElem_take, hn i _ (by omega) (List.getElem?_eq_getElem (by omega))]
  rfl
theorem kept_store {ys : List Xp} {i : Nat} {x : Xp} {l : List Xp} (hi : i < ys.length) (h : ys.take i = l) : (ys.set i x).take (i + 1) = l ++ [x] := by
  have hx : (ys.set i x)[i]? = some x := by simp [hi]
  rw [take_one hx, List.take_set, List.set_eq_of_length_le (by rw [List.length_take]; omega), h]
theorem Ro.ext_at {F : Nat → Prop} {t : TypeId} {w : World} {g : Nat} {xs : List Xp} (h : Ro extE F t w g xs) {i : Nat} {x : Xp} (hx : xs[i]? = some x) : ∃ Ai ci, 
    w.cell? ⟨g, i * 5, none⟩ = some (.int .i64 x.la) ∧ w.cell? ⟨g, i * 5 + 1, none⟩ = some (.int .i64 x.n) ∧ w.cell? ⟨g, i * 5 + 2, none⟩ = some (.int .i64 x.k) ∧ w.cell? ⟨g, i * 5 + 3, none⟩ = some (.int .i64 x.g) ∧ w.cell? ⟨g, i * 5 + 4, none⟩ = some (.slice Ai x.l.length ci) ∧ Sl w Ai x.l.length ci (x.l.map v8) ∧ (0 < x.l.length → ∀ ad, Ai = some ad → F ad.block ∧ ad.block ≠ g) := by
  obtain ⟨vs, ⟨Ai, ci, rfl, hS, hA⟩, hc⟩ := h.at_ i x hx
  exact ⟨Ai, ci, hc 0 _ rfl, hc 1 _ rfl, hc 2 _ rfl, hc 3 _ rfl, hc 4 _ rfl, hS, hA⟩
/-- The first m of a row, whatever is stored behind them. -/
theorem Ro.cutRs {F : Nat → Prop} {t : TypeId} {w : World} {g : Nat} {xs : List Xp} (h : Ro extE F t w g xs) {n m c : Nat} (hn : xs.length = n) (hm : m ≤ n) (hc : n ≤ c) (hb : c ≤ 9223372036854775807) (hF : F g) (vs : List Value) (hv : vs.length = (n - m) * 5) : Rs extE F (setL w g (m * 5) vs) (some ⟨g, 0, none⟩) m c (xs.take m) := by
  obtain ⟨cs, hcs, hB⟩ := h.blk
  have hcs' : xs.length * 5 ≤ cs.size := hcs
  have hbut := setL_but w g (m * 5) vs
  refine ⟨by rw [List.length_take]; omega, by omega, hb, fun _ => ⟨g, 0, rfl, hF, by rw [setL_size]; exact h.lt, fun i x hx => ?_⟩⟩
  have hi := (List.getElem?_eq_some_iff.1 hx).1
  rw [List.length_take] at hi
  rw [List.getElem?_take, if_pos (by omega)] at hx
  obtain ⟨us, hr, hu⟩ := h.at_ i x hx
  have hul := extE.len hr
  have hul5 : us.length = 5 := hul
  refine ⟨us, extE.imp (extE.keep hr (by rw [setL_size]; exact Nat.le_refl _) (fun p hp hF => World.cell?_of_block (hbut.block _ hp hF.2))) (fun b _ hh => hh.1), fun j v hj => ?_⟩
  have hjl := (List.getElem?_eq_some_iff.1 hj).1
  have e5 : extE.k = 5 := rfl
  rw [Nat.zero_add, e5, setL_cell (m * 5) vs hB (by omega), if_neg (by omega)]
  exact hu j v hj
end Go.Wag
namespace Go.Proofs.Ytepaojegcaapfaa
open Go.RowKit Go.Wag
set_option linter.unusedVariables false
set_option linter.unusedSimpArgs false
set_option maxRecDepth 20000
set_option maxHeartbeats 1000000 in
theorem eIndex_any {F : Nat → Prop} (f : FuncId) (cap : Array Value) (p : Xp → Bool) (A : Option Addr) (n c : Nat) (zs : List Xp) (w : World) (h : Rs extE F w A n c zs)
    (hent : ∀ v w, (callFunc f (#[v] ++ cap)).run Try.prog w = .ok (.enter f (#[v] ++ cap)) w)
    (hf : ∀ z Ai ci w', Below w.heap.size w w' → Calls Try.prog f (#[.agg #[.int .i64 z.la, .int .i64 z.n, .int .i64 z.k, .int .i64 z.g, .slice Ai z.l.length ci]] ++ cap) w' fun e w2 => e = .returned (.bool (p z)) ∧ Below w'.heap.size w' w2) :
    Calls Try.prog 98 #[.slice A n c, .func (.func f) #[] cap] w fun e w' => e = .returned (.int .i64 (idxE p zs)) ∧ Below w.heap.size w w' := by
  have hlen := h.len
  subst hlen
  have hbig := h.big
  have hcap := h.cap
  go_enter Try.func98, Try.ntmps98
  go_wp2_with fail
  go_loopg [8] zs.length (fun g i wr => ∃ k : Nat, k + g = zs.length ∧ i = .int .i64 (k : Int) ∧ Hid (∀ j x, j < k → zs[j]? = some x → p x = false) ∧ Below w.heap.size w wr)
  case atStart => exact ⟨0, by omega, rfl, fun j x hj => absurd hj (by omega), Below.refl _ _⟩
  case round =>
    obtain ⟨k, hk, rfl, hall, bb⟩ := hrel
    by_cases hlt : (k : Int) < (zs.length : Int)
    · obtain ⟨g, rfl⟩ : ∃ g, gk = g + 1 := ⟨gk - 1, by omega⟩
      obtain ⟨gb, o, z, Ai, ci, rfl, hF, hg, hz, c0', c1', c2', c3', c4', hS, hA⟩ := h.ext_at (show k < zs.length by omega)
      have c0 := (bb.cell hg).trans c0'
      have c1 := (bb.cell hg).trans c1'
      have c2 := (bb.cell hg).trans c2'
      have c3 := (bb.cell hg).trans c3'
      have c4 := (bb.cell hg).trans c4'
      have hC := hf z Ai ci wr bb
      clear c0' c1' c2' c3' c4'
      cases hp : p z with
      | true =>
        have hi : Hid (idxE p zs = k) := idxE_at hz hp hall.out
        clear hz
        go_wp2_with fail
        refine hC.mono ?_
        clear hC
        rw [hp]
        rintro e w2 ⟨rfl, b2⟩
        go_wp2
        go_ret
        rw [hi.out]
        exact ⟨rfl, bb.trans (b2.mono bb.size)⟩
      | false =>
        have hk1 : Hid (∀ j x, j < k + 1 → zs[j]? = some x → p x = false) := fun j x hj hx => by
          by_cases hjk : j = k
          · subst hjk
            cases hz.symm.trans hx
            exact hp
          · exact hall.out j x (by omega) hx
        clear hz
        go_wp2_with fail
        refine hC.mono ?_
        clear hC
        rw [hp]
        rintro e w2 ⟨rfl, b2⟩
        go_wp2
        go_roundg g
        case measure => omega
        case rel => exact ⟨k + 1, by omega, by first | rfl | (simp; done) | (simp; exact wrap64_small (by omega) (by omega)), hk1, bb.trans (b2.mono bb.size)⟩
    · have hi : Hid (idxE p zs = -1) := idxE_none fun z hz => by
        obtain ⟨j, hj, rfl⟩ := List.mem_iff_getElem.1 hz
        exact hall.out j _ (by omega) (List.getElem?_eq_getElem hj)
      go_wp2
      go_ret
      rw [hi.out]
      exact ⟨rfl, bb⟩
theorem zero_ext (W : World) : (zeroValue 38).run Try.prog W = .ok (.agg #[.int .i64 0, .int .i64 0, .int .i64 0, .int .i64 0, .slice none 0 0]) W := by kernel_rfl
/-- What DeleteFunc leaves. -/
def DelPost (B : Nat) (F : Nat → Prop) (w : World) (ys : List Xp) (e : Ending) (w' : World) : Prop := ∃ A n c, Hid (ys.length = n) ∧ e = .returned (.slice A n c) ∧ Rs extE F w' A n c ys ∧ Below B w w'
set_option maxHeartbeats 4000000 in
theorem eDelete_any {F : Nat → Prop} (B gs : Nat) (f : FuncId) (cap : Array Value) (p : Xp → Bool) (n c : Nat) (zs : List Xp) (w : World) (hR : Ro extE F 38 w gs zs) (hlen : zs.length = n) (hcap : n ≤ c) (hbig : c ≤ 9223372036854775807) (hFg : F gs) (hBg : B ≤ gs) (hn : n ≤ 1000000000)
    (hent : ∀ v w, (callFunc f (#[v] ++ cap)).run Try.prog w = .ok (.enter f (#[v] ++ cap)) w)
    (hf : ∀ z Ai ci w', Below B w w' → Calls Try.prog f (#[.agg #[.int .i64 z.la, .int .i64 z.n, .int .i64 z.k, .int .i64 z.g, .slice Ai z.l.length ci]] ++ cap) w' fun e w2 => e = .returned (.bool (p z)) ∧ Below w'.heap.size w' w2) :
    Calls Try.prog 87 #[.slice (some ⟨gs, 0, none⟩) n c, .func (.func f) #[] cap] w (DelPost B F w (zs.filter fun x => !p x)) := by
  have hRs := hR.toRs hlen hcap hbig hFg
  have hBw : B ≤ w.heap.size := by have := hR.lt; omega
  have hI := eIndex_any f cap p (some ⟨gs, 0, none⟩) n c zs w hRs hent (fun z Ai ci w' hb => hf z Ai ci w' (hb.mono hBw))
  rcases idxE_cases p zs with ⟨h1, h2⟩ | ⟨k, z, h1, hk, hz, hp, hno⟩
  · have hfl : zs.filter (fun x => !p x) = zs := List.filter_eq_self.2 fun x hx => by rw [h2 x hx]; rfl
    rw [hfl]
    rw [h1] at hI
    clear h1 h2 hfl
    go_enter Try.func87, Try.ntmps87
    go_wp2_with fail
    refine hI.mono ?_
    clear hI
    rintro e w2 ⟨rfl, b2⟩
    go_wp2
    go_ret
    exact ⟨_, n, c, hlen, rfl, hRs.below b2, b2.mono hBw⟩
  · rw [h1] at hI
    have hfirst := kept_first hz hp hno
    clear h1
    have hkn : k < n := by omega
    have hk64 : wrap64 ((k : Int) + 1) = ((k + 1 : Nat) : Int) := by unfold wrap64; omega
    replace hkn := Lib.hid hkn
    replace hlen := Lib.hid hlen
    go_enter Try.func87, Try.ntmps87
    go_wp2_with fail
    refine hI.mono ?_
    clear hI
    rintro e w2 ⟨rfl, b2⟩
    have bb2 := b2.mono hBw
    have R2 := hR.under b2
    clear b2
    go_wp2_with fail
    go_loopg [5, 6] n (fun gk i j wr => ∃ (a b : Nat) (ys : List Xp), b + gk = n + k + 1 ∧ a < b ∧ b ≤ n ∧ i = .int .i64 (a : Int) ∧ j = .int .i64 (b : Int) ∧ Hid (ys.length = n) ∧ Hid (ys.take a = keptL p zs b) ∧ Hid (∀ m, b ≤ m → ys[m]? = zs[m]?) ∧ Ro extE F 38 wr gs ys ∧ Below B w wr)
    case atStart => exact ⟨k, k + 1, zs, by omega, by omega, by have := hkn.out; omega, rfl, by rw [hk64], hlen.out, hfirst.symm, fun m _ => rfl, R2, bb2⟩
    case round =>
      obtain ⟨a, b, ys, hbg, hab, hbn, rfl, rfl, hyl, hyt, hyr, R, bb⟩ := hrel
      clear R2 bb2 hkn hk64
      by_cases hlt : (b : Int) < (n : Int)
      · obtain ⟨g, rfl⟩ : ∃ g, gk = g + 1 := ⟨gk - 1, by omega⟩
        obtain ⟨x, hx⟩ : ∃ x, zs[b]? = some x := ⟨_, List.getElem?_eq_getElem (by have := hlen.out; omega)⟩
        obtain ⟨Ai, ci, y0, y1, y2, y3, y4, hS, hA⟩ := R.ext_at ((hyr.out b (Nat.le_refl _)).trans hx)
        have V := Blk.new wr #[.int .i64 x.la, .int .i64 x.n, .int .i64 x.k, .int .i64 x.g, .slice Ai x.l.length ci] 38
        have a1 := (Below.refl wr.heap.size wr).alloc (Nat.le_refl _) (.cells #[.int .i64 x.la, .int .i64 x.n, .int .i64 x.k, .int .i64 x.g, .slice Ai x.l.length ci] 38)
        have hgl := R.lt
        have hBr : B ≤ wr.heap.size := by omega
        replace R := R.alloc (.cells #[.int .i64 x.la, .int .i64 x.n, .int .i64 x.k, .int .i64 x.g, .slice Ai x.l.length ci] 38)
        replace hS := hS.alloc (.cells #[.int .i64 x.la, .int .i64 x.n, .int .i64 x.k, .int .i64 x.g, .slice Ai x.l.length ci] 38)
        replace bb := bb.trans (a1.mono hBr)
        have hC := hf x Ai ci _ bb
        clear a1
        cases hp2 : p x with
        | true =>
          have hst := Lib.hid (hyt.out.trans (kept_del hx hp2).symm)
          go_wp2_with fail
          refine hC.mono ?_
          generalize wr.alloc (.cells #[.int .i64 x.la, .int .i64 x.n, .int .i64 x.k, .int .i64 x.g, .slice Ai x.l.length ci] 38) = w2 at *
          clear hC
          rw [hp2]
          rintro e w3 ⟨rfl, b3⟩
          replace R := R.under b3
          have hB2 : B ≤ w2.heap.size := by have := bb.size; omega
          replace bb := bb.trans (b3.mono hB2)
          clear b3 V y0 y1 y2 y3 y4 hS hA
          go_wp2
          go_roundg g
          case measure => omega
          case rel => exact ⟨a, b + 1, ys, by omega, by omega, by omega, rfl, by first | rfl | (simp; done) | (simp; exact wrap64_small (by omega) (by omega)), hyl, hst, fun m hm => hyr.out m (by omega), R, bb⟩
        | false =>
          have ha : a < ys.length := by have := hyl.out; omega
          have hst := Lib.hid ((kept_store (x := x) ha hyt.out).trans (kept_add hx hp2).symm)
          have hyl2 := Lib.hid (show (ys.set a x).length = n by rw [List.length_set]; exact hyl.out)
          have hyr2 : Hid (∀ m, b + 1 ≤ m → (ys.set a x)[m]? = zs[m]?) := fun m hm => by
            rw [List.getElem?_set_ne (by omega)]
            exact hyr.out m (by omega)
          replace ha := Lib.hid ha
          go_wp2_with fail
          refine hC.mono ?_
          generalize wr.alloc (.cells #[.int .i64 x.la, .int .i64 x.n, .int .i64 x.k, .int .i64 x.g, .slice Ai x.l.length ci] 38) = w2 at *
          clear hC
          rw [hp2]
          rintro e w3 ⟨rfl, b3⟩
          replace R := R.under b3
          replace V := V.under b3
          replace hS := hS.below b3
          have hB2 : B ≤ w2.heap.size := by have := bb.size; omega
          replace bb := bb.trans (b3.mono hB2)
          clear b3 y0 y1 y2 y3 y4
          obtain ⟨v0, v1, v2, v3, v4, _⟩ := V.five
          obtain ⟨y, hy⟩ : ∃ y, ys[a]? = some y := ⟨_, List.getElem?_eq_getElem ha.out⟩
          obtain ⟨Ao, co, o0, o1, o2, o3, o4, _, _⟩ := R.ext_at hy
          have f0 := R.frozen (a * 5)
          have f1 := R.frozen (a * 5 + 1)
          have f2 := R.frozen (a * 5 + 2)
          have f3 := R.frozen (a * 5 + 3)
          have f4 := R.frozen (a * 5 + 4)
          have R3 : Ro extE F 38 (((((w3.setCell ⟨gs, a * 5, none⟩ (.int .i64 x.la)).setCell ⟨gs, a * 5 + 1, none⟩ (.int .i64 x.n)).setCell ⟨gs, a * 5 + 2, none⟩ (.int .i64 x.k)).setCell ⟨gs, a * 5 + 3, none⟩ (.int .i64 x.g)).setCell ⟨gs, a * 5 + 4, none⟩ (.slice Ai x.l.length ci)) gs (ys.set a x) := R.set ha.out (y := x) (vs := [.int .i64 x.la, .int .i64 x.n, .int .i64 x.k, .int .i64 x.g, .slice Ai x.l.length ci]) ⟨Ai, ci, rfl, hS, hA⟩
          have bb3 : Below B w (((((w3.setCell ⟨gs, a * 5, none⟩ (.int .i64 x.la)).setCell ⟨gs, a * 5 + 1, none⟩ (.int .i64 x.n)).setCell ⟨gs, a * 5 + 2, none⟩ (.int .i64 x.k)).setCell ⟨gs, a * 5 + 3, none⟩ (.int .i64 x.g)).setCell ⟨gs, a * 5 + 4, none⟩ (.slice Ai x.l.length ci)) := setL_below hBg [.int .i64 x.la, .int .i64 x.n, .int .i64 x.k, .int .i64 x.g, .slice Ai x.l.length ci] (a * 5) bb
          replace hy := Lib.hid hy
          have han : (a : Int) < (n : Int) := by omega
          clear V hS hA R bb
          go_wp2
          go_roundg g
          case measure => omega
          case rel => exact ⟨a + 1, b + 1, ys.set a x, by omega, by omega, by omega, by first | rfl | (simp; done) | (simp; exact wrap64_small (by omega) (by omega)), by first | rfl | (simp; done) | (simp; exact wrap64_small (by omega) (by omega)), hyl2, hst, hyr2, R3, bb3⟩
      · obtain rfl : b = n := by omega
        have han : a ≤ b := by omega
        obtain ⟨cs, hcs, hBk⟩ := R.blk
        have hcs5 : ys.length * 5 ≤ cs.size := hcs
        obtain ⟨vs, hvs, hrun⟩ := run_clear_five (P := Try.prog) wr 22 38 0 Try.underlying22 zero_ext (o := a * 5) (n := b - a) (c := c - a) hBk (by have := hyl.out; omega)
        have hcut := R.cutRs hyl.out han hcap hbig hFg vs hvs
        have hbb := setL_below hBg vs (a * 5) bb
        have hfin : ys.take a = zs.filter fun x => !p x := by
          rw [hyt.out, keptL, List.take_of_length_le (by have := hlen.out; omega)]
        rw [hfin] at hcut
        have hnl := Lib.hid hcut.len
        replace hfin := Lib.hid hfin
        go_wp2
        go_ret
        exact ⟨_, a, c, hnl, rfl, hcut, hbb⟩
theorem since1_any (bg : Nat) (gv : Int) (z : Xp) (Ai : Option Addr) (ci : Nat) (w : World) (hb : w.cell? ⟨bg, 0, none⟩ = some (.int .i64 gv)) :
    Calls Try.prog 88 #[.agg #[.int .i64 z.la, .int .i64 z.n, .int .i64 z.k, .int .i64 z.g, .slice Ai z.l.length ci], .pointer (some ⟨bg, 0, none⟩)] w fun e w2 => e = .returned (.bool (decide (z.g ≤ gv))) ∧ Below w.heap.size w w2 := by
  have hb2 := (Lib.cell?_alloc_some (.cells #[.int .i64 z.la, .int .i64 z.n, .int .i64 z.k, .int .i64 z.g, .slice Ai z.l.length ci] 38) hb)
  have bb := (Below.refl w.heap.size w).alloc (Nat.le_refl _) (.cells #[.int .i64 z.la, .int .i64 z.n, .int .i64 z.k, .int .i64 z.g, .slice Ai z.l.length ci] 38)
  go_enter Try.func88, Try.ntmps88
  go_wp2
  go_ret
  exact ⟨rfl, bb⟩
theorem mRange_any {F : Nat → Prop} (b : Int) (xs : List Xp) (A : Option Addr) (n c : Nat) (lba m : Int) (w : World) (hlb : lba ≤ 9223372036854775807) (h : Rs extE F w A n c xs) (hla : ∀ x ∈ xs, x.la ≤ 9223372036854775807) (hn : n ≤ 1000000000) :
    Calls Try.prog 24 #[.int .i64 b, .slice A n c, .int .i64 lba, .int .i64 m] w (if mapB b xs = false then LErr w [] 80 else if 0 ≤ lba ∧ 1 ≤ m ∧ m ≤ b - lba then LErr w (mparts xs lba m) 0 else LErr w [] 81) := by
  have hC := mCheck_any b xs A n c w h hla hn
  cases hm : mapB b xs
  · rw [if_pos rfl]
    rw [hm] at hC
    go_enter Try.func24, Try.ntmps24
    go_wp2_with fail
    refine hC.mono ?_
    rintro e w2 ⟨rfl, b2⟩
    go_wp2
    go_ret2
    exact LErr.nil _ b2
  · rw [if_neg (by simp)]
    rw [hm] at hC
    obtain ⟨hb1, hb64, _⟩ := (mapB_iff _ _).1 hm
    replace hm := Lib.hid hm
    by_cases h0 : lba < 0
    · rw [if_neg (by omega)]
      go_enter Try.func24, Try.ntmps24
      go_wp2_with fail
      refine hC.mono ?_
      rintro e w2 ⟨rfl, b2⟩
      go_wp2
      go_ret2
      exact LErr.nil _ b2
    by_cases h1 : m < 1
    · rw [if_neg (by omega)]
      go_enter Try.func24, Try.ntmps24
      go_wp2_with fail
      refine hC.mono ?_
      rintro e w2 ⟨rfl, b2⟩
      go_wp2
      go_ret2
      exact LErr.nil _ b2
    have hw : wrap64 (b - lba) = b - lba := by unfold wrap64; omega
    by_cases h2 : b - lba < m
    · rw [if_neg (by omega)]
      go_enter Try.func24, Try.ntmps24
      go_wp2_with fail
      refine hC.mono ?_
      rintro e w2 ⟨rfl, b2⟩
      go_wp2
      go_ret2
      exact LErr.nil _ b2
    · rw [if_pos (by omega)]
      go_enter Try.func24, Try.ntmps24
      go_wp2_with fail
      refine hC.mono ?_
      rintro e w2 ⟨rfl, b2⟩
      go_wp2_with fail
      refine (mparts_any xs A n c lba m w2 (h.below b2) hla hn).mono ?_
      rintro e w3 ⟨A3, n3, c3, h3, rfl, R3, b3⟩
      have hs := b2.size
      go_wp2
      go_ret2
      exact ⟨A3, n3, c3, h3, rfl, (rq_rs R3).imp (fun x _ hx => by omega), b2.trans (b3.mono b2.size)⟩
theorem since_eq (xs : List Xp) (gv : Int) : (xs.filter fun x => !(decide (x.g ≤ gv))) = msince xs gv := by
  unfold msince
  congr 1
  funext x
  by_cases h : x.g ≤ gv
  · simp [h]
    try omega
  · simp [h]
    try omega
theorem mSince_any {F : Nat → Prop} (b : Int) (xs : List Xp) (A : Option Addr) (n c : Nat) (gv : Int) (w : World) (h : Rs extE F w A n c xs) (hla : ∀ x ∈ xs, x.la ≤ 9223372036854775807) (hn : n ≤ 1000000000) :
    Calls Try.prog 53 #[.int .i64 b, .slice A n c, .int .i64 gv] w (if mapB b xs = false then LErr w [] 80 else LErr w (msince xs gv) 0) := by
  have a1 := (Below.refl w.heap.size w).alloc (Nat.le_refl _) (.cells #[.int .i64 gv] 3)
  have V := Blk.new w #[.int .i64 gv] 3
  have hC := mCheck_any b xs A n c _ (h.alloc (.cells #[.int .i64 gv] 3)) hla hn
  have h1 := h.alloc (.cells #[.int .i64 gv] 3)
  have hsz : (w.alloc (.cells #[.int .i64 gv] 3)).heap.size = w.heap.size + 1 := by simp
  cases hm : mapB b xs
  · rw [if_pos rfl]
    rw [hm] at hC
    go_enter Try.func53, Try.ntmps53
    go_wp2_with fail
    refine hC.mono ?_
    rintro e w2 ⟨rfl, b2⟩
    go_wp2
    go_ret2
    exact LErr.nil _ (a1.trans (b2.mono a1.size))
  · rw [if_neg (by simp)]
    rw [hm] at hC
    obtain ⟨hb1, hb64, hrun, _⟩ := (mapB_iff _ _).1 hm
    have hcp := mcopy_ok (mrun_ok hrun)
    have hne := mrun_ne hrun (by omega)
    have hsi := since_eq xs gv
    clear hrun
    go_enter Try.func53, Try.ntmps53
    go_wp2_with fail
    refine hC.mono ?_
    generalize w.alloc (.cells #[.int .i64 gv] 3) = w1 at *
    clear hC
    rintro e w2 ⟨rfl, b2⟩
    replace V := V.under b2
    replace h1 := h1.below b2
    have hs2 := b2.size
    replace a1 := a1.trans (b2.mono a1.size)
    clear b2
    have hK := mcopied_any xs A n c w2 h1 hla hn
    rw [hcp] at hK
    go_wp2_with fail
    refine hK.mono ?_
    clear hK
    rintro e w3 ⟨A3, n3, c3, h3, rfl, R3, b3⟩
    replace V := V.under b3
    replace a1 := a1.trans (b3.mono a1.size)
    have hn3 : 0 < n3 := by rw [← h3.out]; exact List.length_pos_iff.2 hne
    obtain ⟨gs, rfl, hgs, hc3, hcb, R4⟩ := R3.toRo hn3
    have hln : n3 ≤ 1000000000 := by have := h.len; have := h3.out; omega
    have hD := eDelete_any (F := fun x => w.heap.size ≤ x) (w.heap.size + 1) gs 88 #[.pointer (some ⟨w.heap.size, 0, none⟩)] (fun x => decide (x.g ≤ gv)) n3 c3 xs w3 (R4.imp (fun x _ hx => by omega)) h3.out hc3 hcb (by omega) (by omega) hln (fun v w => by rfl)
      (fun z Ai ci w' hb => since1_any w.heap.size gv z Ai ci w' ((hb.cell (p := ⟨w.heap.size, 0, none⟩) (Nat.lt_succ_self _)).trans V.one.1))
    rw [hsi] at hD
    clear hsi hcp hne R3 R4 b3
    go_wp2_with fail
    refine hD.mono ?_
    clear hD
    rintro e w4 ⟨A4, n4, c4, h4, rfl, R5, b5⟩
    go_wp2
    go_ret2
    exact ⟨A4, n4, c4, h4, rfl, R5, a1.trans (b5.mono (Nat.le_succ _))⟩
end Go.Proofs.Ytepaojegcaapfaa
