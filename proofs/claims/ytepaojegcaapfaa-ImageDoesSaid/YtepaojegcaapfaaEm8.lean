/-
  Contract of package extmap's Lay (written by gen_em8.py).
-/
import Derived.Test.YtepaojegcaapfaaEm7
import Derived.Test.YtepaojegcaapfaaGoto
namespace Go.Wag
open Go.RowKit
set_option linter.unusedVariables false
/-- The address of 's[k:]' of extents. -/
def cutA5 (A : Option Addr) (c k : Nat) : Option Addr := if c = k then A else A.map (·.add (k * 5))
theorem run_cut5 {P : Program} (t : TypeId) (e : TypeId) (ht : P.underlying t = some (.slice (P.elem t))) (he : P.elem t = e) (hsz : (P.info? e).map (·.size) = some 5) (A : Option Addr) (n c : Nat) (kl : IntKind) (L : Int) (k : Nat) (hL : L = k) (hk : k ≤ n) (w : World) :
    (Instr.slice t (.slice A n c) (some (.int kl L)) none none).run P w = .ok (.slice (cutA5 A c k) (n - k) (c - k)) w := by
  subst hL he
  obtain ⟨i, hi, hs⟩ := Option.map_eq_some_iff.1 hsz
  rw [run_slice_l w t A n c ht kl k (by omega) (by omega)]
  simp [sizeOf, typeInfo, hi, hs, sliced, cutA5]
theorem Rs.from5 {F : Nat → Prop} {w : World} {A : Option Addr} {n c : Nat} {xs : List Xp} (h : Rs extE F w A n c xs) {k : Nat} (hk : k ≤ n) : Rs extE F w (cutA5 A c k) (n - k) (c - k) (xs.drop k) := by
  refine ⟨by rw [List.length_drop, h.len], by have := h.cap; omega, by have := h.big; omega, fun hn => ?_⟩
  obtain ⟨g, o, e, hF, hg, hc⟩ := h.cells (by omega)
  have hcap := h.cap
  refine ⟨g, o + k * 5, ?_, hF, hg, fun i x hi => ?_⟩
  · rw [cutA5, if_neg (by omega), e, Option.map_some]
    congr 1
    unfold Addr.add
    split <;> simp_all
  · rw [List.getElem?_drop] at hi
    obtain ⟨vs, hr, hv⟩ := hc (k + i) x hi
    refine ⟨vs, hr, fun j v hj => ?_⟩
    have e5 : extE.k = 5 := rfl
    rw [e5] at hv ⊢
    rw [show o + k * 5 + i * 5 + j = o + (k + i) * 5 + j by omega]
    exact hv j v hj
end Go.Wag
namespace Go.Proofs.Ytepaojegcaapfaa
open Go.RowKit Go.Wag
set_option linter.unusedVariables false
set_option linter.unusedSimpArgs false
set_option maxRecDepth 20000
theorem unXS : Try.prog.underlying 22 = some (.slice (Try.prog.elem 22)) := by kernel_rfl
theorem elXS : Try.prog.elem 22 = 38 := by kernel_rfl
theorem szEX : (Try.prog.info? 38).map (·.size) = some 5 := by kernel_rfl
/-- What Lay answers. -/
def LayPost (w : World) (xs : List Xp) (r : Option (List Xp)) (e : Ending) (w' : World) : Prop := LErr w (r.getD xs) (errOf r 81) e w'
/-- What holds at Lay's label. -/
def LayAt (F : Nat → Prop) (w : World) (b : Int) (A : Option Addr) (n c : Nat) (r : Option (List Xp)) (g : Nat) (a' : Act) (w' : World) : Prop :=
  ∃ (Ar : Option Addr) (cr : Nat) (Am : Option Addr) (nm cm : Nat) (ms rest : List Xp) (u3 u4 u5 u6 u7 u9 u10 u11 u12 u13 u14 u15 u16 u17 u18 u19 u20 u21 u22 u23 u24 u25 u26 u27 u28 u29 u30 u31 u32 u33 u34 u35 : Value), a' = { tmps := #[.int .i64 b, .slice A n c, .slice Ar g cr, u3, u4, u5, u6, u7, .slice Am nm cm, u9, u10, u11, u12, u13, u14, u15, u16, u17, u18, u19, u20, u21, u22, u23, u24, u25, u26, u27, u28, u29, u30, u31, u32, u33, u34, u35], defers := [] } ∧
    Hid (mlays b ms rest = r) ∧ Rs extE F w' Ar g cr rest ∧ Hid (∀ x ∈ rest, x.la ≤ 9223372036854775807) ∧ Hid (mapB b ms = true) ∧ Rs extE (fun y => w.heap.size ≤ y) w' Am nm cm ms ∧ Below w.heap.size w w'
set_option maxHeartbeats 4000000 in
theorem mLay_any {F F2 : Nat → Prop} (b : Int) (xs : List Xp) (A : Option Addr) (n c : Nat) (ov : List Xp) (A2 : Option Addr) (n2 c2 : Nat) (w : World) (h : Rs extE F w A n c xs) (hla : ∀ x ∈ xs, x.la ≤ 9223372036854775807) (hn : n ≤ 1000000000) (h2 : Rs extE F2 w A2 n2 c2 ov) (hla2 : ∀ x ∈ ov, x.la ≤ 9223372036854775807) :
    Calls Try.prog 54 #[.int .i64 b, .slice A n c, .slice A2 n2 c2] w (if mapB b xs = false then LErr w [] 80 else LayPost w xs (mlays b xs ov)) := by
  have hC := mCheck_any b xs A n c w h hla hn
  cases hm : mapB b xs
  · rw [if_pos rfl]
    rw [hm] at hC
    go_enter Try.func54, Try.ntmps54
    go_wp2
    refine wp_scope_ghost 0 (fun _ _ _ => False) rfl (fun _ _ _ hf => hf.elim) ?_
    intro L hL
    go_wp2_with fail
    refine hC.mono ?_
    rintro e w2 ⟨rfl, b2⟩
    go_wp2
    simp only [Exit.jump]
    go_ret2
    exact LErr.nil _ b2
  rw [if_neg (by simp)]
  rw [hm] at hC
  have hcp := mcopy_ok (mrun_ok ((mapB_iff _ _).1 hm).2.2.1)
  obtain ⟨r, hr⟩ : ∃ r, Hid (mlays b xs ov = r) := ⟨_, rfl⟩
  rw [hr.out]
  replace hm := Lib.hid hm
  have hcut := fun (Ar : Option Addr) (g cr : Nat) (hg : 1 ≤ g) (W : World) => run_cut5 (P := Try.prog) 22 38 unXS elXS szEX Ar g cr .i64 (1 : Int) 1 rfl hg W
  go_enter Try.func54, Try.ntmps54
  go_wp2
  refine wp_scope_ghost 0 (LayAt F2 w b A n c r) rfl ?_ ?_
  · rintro g a' w' ⟨Ar, cr, Am, nm, cm, ms, rest, u3, u4, u5, u6, u7, u9, u10, u11, u12, u13, u14, u15, u16, u17, u18, u19, u20, u21, u22, u23, u24, u25, u26, u27, u28, u29, u30, u31, u32, u33, u34, u35, rfl, hms, Ro2, hrla, hmm, Rm, bb⟩ J hJ
    have hKc := mcopied_any (F := F) xs A n c
    clear hC
    have hgb : g ≤ cr ∧ cr ≤ 9223372036854775807 := ⟨Ro2.cap, Ro2.big⟩
    cases rest with
    | nil =>
      obtain rfl : 0 = g := Ro2.len
      have hrr := hms.out
      rw [mlays_nil] at hrr
      have hnm := Lib.hid Rm.len
      go_wp2
      simp only [Exit.jump]
      go_ret2
      show LErr _ _ _ _ _
      rw [← hrr]
      exact ⟨Am, nm, cm, hnm, rfl, Rm, bb⟩
    | cons x rest =>
      have hlen : rest.length + 1 = g := Ro2.len
      obtain ⟨gb, o, y, Ai, ci, rfl, _, hg, hz, c0', c1', c2', c3', c4', hS, _⟩ := Ro2.ext_at (show 0 < g by omega)
      obtain rfl : x = y := Option.some.inj hz
      simp only [Nat.zero_mul, Nat.add_zero] at c0' c1' c2' c3' c4'
      have hg0 : ¬ g = 0 := by omega
      have hg1 : (0 : Int) < (g : Int) := by omega
      have hnm : nm ≤ 1000000000 := by have := mapB_len hmm.out; have := ((mapB_iff _ _).1 hmm.out).2.1; have := Rm.len; omega
      have hmla : ∀ y ∈ ms, y.la ≤ 9223372036854775807 := fun y hy => by have := Xp.all (mrun_ok ((mapB_iff _ _).1 hmm.out).2.2.1 y hy); omega
      have hP := mPut_any b ms Am nm cm x Ai x.l.length ci w' Rm hmla hnm rfl hS (hrla.out x (List.mem_cons_self ..))
      rw [hmm.out, if_neg (by simp)] at hP
      have hrr := hms.out
      rw [mlays_cons] at hrr
      have hcut1 := hcut (some ⟨gb, o, none⟩) g cr (by omega)
      have hsz := bb.size
      by_cases hf : mfit b x = true
      · rw [if_pos hf] at hP hrr
        have hmm2 := Lib.hid (mput_map hmm.out hf)
        replace hrr := Lib.hid hrr
        have hRf := Ro2.from5 (k := 1) (by omega)
        replace hlen := Lib.hid hlen
        clear hS hf
        go_wp2_with fail
        refine hP.mono ?_
        clear hP c0' c1' c2' c3' c4'
        rintro e w3 ⟨A3, n3, c3, hn3, rfl, R3, b3⟩
        replace hRf := hRf.below b3
        go_wp2
        try go_step3
        exact ⟨rfl, Handed.intro (g - 1) (by omega) (hJ _ _ _ ⟨_, _, A3, n3, c3, _, rest, _, _, _, _, _, _, _, _, _, _, _, _, _, _, _, _, _, _, _, _, _, _, _, _, _, _, _, _, _, _, _, _, rfl, hrr, hRf, fun y hy => hrla.out y (List.mem_cons_of_mem _ hy), hmm2, R3.imp (fun y _ hy => by omega), bb.trans (b3.mono bb.size)⟩)⟩
      · rw [if_neg hf] at hP hrr
        replace hlen := Lib.hid hlen
        clear hS hf
        go_wp2_with fail
        refine hP.mono ?_
        clear hP c0' c1' c2' c3' c4'
        rintro e w3 ⟨A3, n3, c3, hn3, rfl, R3, b3⟩
        have bb3 := bb.trans (b3.mono bb.size)
        have hK := hKc w3 (h.below bb3) hla hn
        rw [hcp] at hK
        clear hKc
        go_wp2_with fail
        refine hK.mono ?_
        clear hK
        rintro e w4 ⟨A4, n4, c4, hn4, rfl, R4, b4⟩
        have hsz3 := bb3.size
        go_wp2
        simp only [Exit.jump]
        go_ret2
        show LErr _ _ _ _ _
        rw [← hrr]
        exact ⟨A4, n4, c4, hn4, rfl, (rq_rs R4).imp (fun y _ hy => by omega), bb3.trans (b4.mono bb3.size)⟩
  · intro L hL
    go_wp2_with fail
    refine hC.mono ?_
    clear hC
    rintro e w2 ⟨rfl, b2⟩
    have hK := mcopied_any xs A n c w2 (h.below b2) hla hn
    rw [hcp] at hK
    go_wp2_with fail
    refine hK.mono ?_
    clear hK
    rintro e w3 ⟨A3, n3, c3, hn3, rfl, R3, b3⟩
    have hs2 := b2.size
    go_wp2
    rename_i K hK
    go_step3
    try simp only [Exit.then]
    exact hK _ _ (hL n2 _ _ ⟨A2, c2, A3, n3, c3, xs, ov, _, _, _, _, _, _, _, _, _, _, _, _, _, _, _, _, _, _, _, _, _, _, _, _, _, _, _, _, _, _, _, _, rfl, hr, (h2.below b2).below b3, hla2, hm, (rq_rs R3).imp (fun y _ hy => by omega), b2.trans (b3.mono b2.size)⟩)
end Go.Proofs.Ytepaojegcaapfaa
