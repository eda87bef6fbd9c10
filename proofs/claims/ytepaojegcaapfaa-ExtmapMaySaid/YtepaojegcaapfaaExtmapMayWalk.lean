/-
  ExtmapMay: the walk (written by gen_emmay.py).
-/
import Derived.Test.YtepaojegcaapfaaEmAwake
import Derived.Test.YtepaojegcaapfaaEmMath2
import Derived.Test.YtepaojegcaapfaaArgs
import Derived.Test.YtepaojegcaapfaaArr
import Derived.Test.YtepaojegcaapfaaEm8
namespace Go.Wag
open Go.RowKit
set_option linter.unusedVariables false
/-- Blocks that were marked. -/
def markF (ts : List Bool) (la : Nat) : Nat → List Bool
  | 0 => ts
  | j + 1 => (markF ts la j).set (la + j) true
theorem markF_len (ts : List Bool) (la j : Nat) : (markF ts la j).length = ts.length := by
  induction j with
  | zero => rfl
  | succ j ih => rw [markF, List.length_set, ih]
theorem markF_at (ts : List Bool) (la j k : Nat) (h : (markF ts la j)[k]? = some false) : ts[k]? = some false ∧ ¬ (la ≤ k ∧ k < la + j) := by
  induction j with
  | zero => exact ⟨h, by omega⟩
  | succ j ih =>
    rw [markF, List.getElem?_set] at h
    split at h
    · split at h <;> cases h
    · obtain ⟨h1, h2⟩ := ih h
      exact ⟨h1, by omega⟩
/-- Blocks where nothing was laid are holes. -/
def MayI (N : Int) (ms : List Xp) (ts : List Bool) : Prop := ts.length = 64 ∧ ∀ k : Nat, (k : Int) < N → ts[k]? = some false → mat ms k = some ⟨k, 1, 0, 0, []⟩
theorem may_new {N : Int} : MayI N (mnew N) (List.replicate 64 false) := ⟨by simp, fun k hk _ => xone_hole (by omega) hk⟩
theorem may_put {N : Int} {ms : List Xp} {ts : List Bool} {x : Xp} {la ln : Nat} (h : MayI N ms ts) (hm : mapB N ms = true) (hx : mfit N x = true) (h1 : x.la = la) (h2 : x.n = ln) : MayI N (mput N ms x) (markF ts la ln) :=
  ⟨by rw [markF_len]; exact h.1, fun k hk hf => by
    obtain ⟨t1, t2⟩ := markF_at ts la ln k hf
    rw [mat_mput hm hx, if_neg (by unfold xhas; omega)]
    exact h.2 k hk t1⟩
theorem may_len {N : Int} {ms : List Xp} (hm : mapB N ms = true) : ms.length ≤ 64 := by
  obtain ⟨_, b2, r, _⟩ := (mapB_iff _ _).1 hm
  have := mrun_len r
  omega
theorem may_la {N : Int} {ms : List Xp} (hm : mapB N ms = true) : ∀ x ∈ ms, x.la ≤ 9223372036854775807 := fun x hx => by
  obtain ⟨_, b2, r, _⟩ := (mapB_iff _ _).1 hm
  have := Xp.all (mrun_ok r x hx)
  omega
theorem may_many {N : Int} {ms : List Xp} (hm : mapB N ms = true) : ∃ v0 v1 v2 : Int, mmany ms 0 = v0 ∧ mmany ms 1 = v1 ∧ mmany ms 2 = v2 ∧ 0 ≤ v0 ∧ 0 ≤ v1 ∧ 0 ≤ v2 ∧ v0 + v1 + v2 = N := by
  obtain ⟨_, _, r, _⟩ := (mapB_iff _ _).1 hm
  have h := mmany_all r
  exact ⟨_, _, _, rfl, rfl, rfl, (mmany_le ms 0).1, (mmany_le ms 1).1, (mmany_le ms 2).1, by omega⟩
theorem may_tmod {q : Int} (h0 : 0 ≤ q) : ∃ (r : Int) (N : Nat), Int.tmod q 64 = r ∧ wrap64 (1 + r) = (N : Int) ∧ (1 ≤ N ∧ N ≤ 64) := by
  have h1 : 0 ≤ Int.tmod q 64 ∧ Int.tmod q 64 < 64 := by
    rw [Int.tmod_eq_emod_of_nonneg h0]
    exact ⟨Int.emod_nonneg q (by omega), Int.emod_lt_of_pos q (by omega)⟩
  exact ⟨_, (1 + Int.tmod q 64).toNat, rfl, by unfold wrap64; omega, by omega, by omega⟩
theorem blk_bool {w : World} {kt : Nat} {t : TypeId} {ts : List Bool} (h : Blk w kt (ts.map Value.bool).toArray t) {k : Nat} {b : Bool} (hb : ts[k]? = some b) : w.cell? ⟨kt, k, none⟩ = some (.bool b) := by
  rw [h.cell]
  simp [hb]
theorem blk_mark {w : World} {kt : Nat} {t : TypeId} {ts : List Bool} {la j : Nat} (h : Blk w kt ((markF ts la j).map Value.bool).toArray t) : Blk (w.setCell ⟨kt, la + j, none⟩ (.bool true)) kt ((markF ts la (j + 1)).map Value.bool).toArray t := by
  have := h.set (la + j) (.bool true)
  rw [markF, List.map_set]
  simpa using this
def zeroB : Array Value := ((List.replicate 64 false).map Value.bool).toArray
end Go.Wag
namespace Go.Proofs.Ytepaojegcaapfaa
open Go.RowKit Go.Wag
set_option linter.unusedVariables false
set_option linter.unusedSimpArgs false
theorem zeroB_build (W : World) : (Instr.build 35 #[]).run Try.prog W = .ok (.agg zeroB) W := by kernel_rfl
theorem zeroB_alloc (W : World) : (Instr.alloc 35 true (.tuple #[])).run Try.prog W = .ok (.pointer (some ⟨W.heap.size, 0, none⟩)) (W.alloc (.cells zeroB 35)) := by kernel_rfl
theorem size_zeroB : (Try.prog.info? 35).map (·.size) = some zeroB.size := by kernel_rfl
theorem one_zeroB : zeroB.all (·.oneCell') = true := by kernel_rfl
set_option maxRecDepth 100000 in
set_option maxHeartbeats 16000000 in
theorem may8_core (q : Int) (xs : List Xp) (A : Option Addr) (n c : Nat) (w : World) (h : Rs extE (fun z => z < w.heap.size) w A n c xs) (hla : ∀ x ∈ xs, x.la ≤ 9223372036854775807) (hq : 0 ≤ q ∧ q ≤ 255) :
    Calls Try.prog 4 #[.int .u8 q, .slice A n c] w (AwakePost w) := by
  have HN : Hid (xs.length = n) := h.len
  have hcap := h.cap
  have hbig := h.big
  go_enter Try.func4, Try.ntmps4
  go_wp2_with fail
  refine (awake8_any w).mono ?_
  rintro e w1 ⟨rfl, bb⟩
  go_wp2_with fail
  refine (few_any xs A n c w1 (h.below bb)).mono ?_
  rintro e w2 ⟨fr, rfl, hfew, rfl⟩
  cases fr
  · go_wp2
    go_ret
    exact ⟨rfl, bb⟩
  have hn70 := (hfew rfl).1
  clear hfew
  obtain ⟨r, N, t1, t2, hN1, hN64⟩ := may_tmod hq.1
  have hq1 := hq.1
  have hq2 := hq.2
  clear hq
  have hC := mNew_any (N : Int) w1
  rw [if_pos (show 1 ≤ (N : Int) ∧ (N : Int) ≤ 64 by omega), if_pos (show 1 ≤ (N : Int) ∧ (N : Int) ≤ 64 by omega)] at hC
  have hmn := mnew_map (b := (N : Int)) (by omega) (by omega)
  replace hmn := Lib.hid hmn
  replace hN1 := Lib.hid hN1
  replace hN64 := Lib.hid hN64
  go_wp2_with fail
  refine hC.mono ?_
  clear hC
  rintro e w2 ⟨A2, n2, c2, hm2, rfl, R2, b2⟩
  have V0 := (Blk.new w2 zeroB 35)
  have a0 := (Below.refl w2.heap.size w2).alloc (Nat.le_refl _) (.cells zeroB 35)
  go_upto_region 7 with (first | with_reducible refine wpList_zero rfl 35 rfl (.agg zeroB) zeroB_build ?_ | with_reducible refine wpList_new rfl 35 rfl zeroB 35 zeroB_alloc ?_ | with_reducible refine wpList_store_row rfl 35 (.tmp 9) (.tmp 34) rfl w2.heap.size zeroB rfl rfl 35 zeroB (heap_alloc_new w2 _) size_zeroB rfl one_zeroB ?_)
  have hw0 := bb.size
  have V : Blk ((w2.alloc (.cells zeroB 35)).setRow w2.heap.size zeroB) w2.heap.size ((List.replicate 64 false).map Value.bool).toArray 35 := setRow_heap _ _ zeroB _ _ _ (heap_alloc_new w2 _)
  have a1 : Below w2.heap.size w2 ((w2.alloc (.cells zeroB 35)).setRow w2.heap.size zeroB) := below_setRow a0 (Nat.le_refl _) _
  have R := (R2.imp (F' := fun z => z ≠ w2.heap.size) (fun z hz _ => by omega)).below a1
  have hkt : w.heap.size ≤ w2.heap.size := Nat.le_trans hw0 b2.size
  replace bb := (bb.trans (b2.mono bb.size)).trans (a1.mono hkt)
  clear V0 a0 a1 R2 b2 hw0
  generalize (w2.alloc (.cells zeroB 35)).setRow w2.heap.size zeroB = w3 at *
  obtain ⟨kt, hk⟩ : ∃ k, w2.heap.size = k := ⟨_, rfl⟩
  simp only [hk] at V R hkt ⊢
  clear hk
  go_wp2_with fail
  go_loopg [7, 10] n (fun g o i wr => ∃ (k : Nat) (Ar : Option Addr) (nr cr : Nat) (ms : List Xp) (ts : List Bool), k + g = n ∧ o = .slice Ar nr cr ∧ i = .int .i64 (k : Int) ∧ Hid (ms.length = nr) ∧ Hid (mapB (N : Int) ms = true) ∧ Hid (MayI (N : Int) ms ts) ∧ Blk wr kt (ts.map Value.bool).toArray 35 ∧ Rs extE (fun z => z ≠ kt) wr Ar nr cr ms ∧ Below w.heap.size w wr)
  case atStart => exact ⟨0, A2, n2, c2, _, _, by omega, rfl, rfl, hm2, hmn, may_new, V, R, bb⟩
  case round =>
    clear V R bb hm2 hmn
    obtain ⟨k, Ar, nr, cr, ms, ts, hk, rfl, rfl, hml, hmm, hmi, V, R, bb⟩ := hrel
    by_cases hlt : (k : Int) < (n : Int)
    · obtain ⟨g, rfl⟩ : ∃ g, gk = g + 1 := ⟨gk - 1, by omega⟩
      obtain ⟨gb, o, x, Ai, ci, rfl, _, hg, hz, d0, d1, d2, d3, d4, hS, _⟩ := h.ext_at (show k < n by omega)
      obtain ⟨mi, hmx⟩ : ∃ m, x.l.length = m := ⟨_, rfl⟩
      rw [hmx] at d4 hS
      have hxla := hla x (List.mem_iff_getElem?.2 ⟨k, hz⟩)
      have hN1' := hN1.out
      have hN64' := hN64.out
      have hnr : nr ≤ 64 := by rw [← hml.out]; exact may_len hmm.out
      have hck : xchk x.la x.n x.k x.g mi = x.ok := by rw [← hmx]; rfl
      have hC1 := fun W (hR : Rs extE (fun z => z ≠ kt) W Ar nr cr ms) (hs : Sl W Ai mi ci (x.l.map v8)) => mPut_any (N : Int) ms Ar nr cr x Ai mi ci W hR (may_la hmm.out) (by omega) hmx hs hxla
      simp only [hmm.out, Bool.true_eq_false, if_false] at hC1
      replace hmx := Lib.hid hmx
      clear hN1' hN64'
      by_cases hok : x.ok = true
      · rw [hok] at hck
        obtain ⟨x1, x2, x3, _⟩ := Xp.all hok
        obtain ⟨la, hlaN⟩ : ∃ m : Nat, x.la = (m : Int) := ⟨x.la.toNat, by omega⟩
        obtain ⟨ln, hlnN⟩ : ∃ m : Nat, x.n = (m : Int) := ⟨x.n.toNat, by omega⟩
        have hl64 : la + ln ≤ 64 := by omega
        have hl1 : 1 ≤ ln := by omega
        rw [hlaN] at d0 hck hxla
        rw [hlnN] at d1 hck
        clear x1 x2 x3
        by_cases hfit : la + ln ≤ N
        · skip
          have hf : mfit (N : Int) x = true := (mfit_iff _ _).2 ⟨hok, by omega⟩
          simp only [hf, if_true] at hC1
          simp only [hlaN, hlnN] at hC1
          have hpm := mput_map hmm.out hf
          have hpp := mparts_put hmm.out hf
          rw [hlaN, hlnN] at hpp
          have hpi := may_put hmi.out hmm.out hf hlaN hlnN
          obtain ⟨m2, hm2⟩ : ∃ m2, mput (N : Int) ms x = m2 := ⟨_, rfl⟩
          rw [hm2] at hC1 hpm hpp hpi
          replace hpm := Lib.hid hpm
          replace hpp := Lib.hid hpp
          replace hpi := Lib.hid hpi
          clear hf hm2 hok
          have y0 := (bb.cell hg).trans d0
          have y1 := (bb.cell hg).trans d1
          have y2 := (bb.cell hg).trans d2
          have y3 := (bb.cell hg).trans d3
          have y4 := (bb.cell hg).trans d4
          go_wp2_with fail
          refine (hC1 wr R (hS.below bb)).mono ?_
          clear hC1 y0 y1 y2 y3 y4
          rintro e w4 ⟨A4, n4, c4, hm4, rfl, R4, b4⟩
          have hs4 := bb.size
          replace R4 := R4.imp (F' := fun z => z ≠ kt) (fun z _ hz => by have := V.lt; omega)
          have hn4 : n4 ≤ 64 := by rw [← hm4.out]; exact may_len hpm.out
          replace V := V.under b4
          replace bb := bb.trans (b4.mono bb.size)
          clear b4 R hmm hmi hml
          have y0 := (bb.cell hg).trans d0
          have y1 := (bb.cell hg).trans d1
          have y2 := (bb.cell hg).trans d2
          have y3 := (bb.cell hg).trans d3
          have y4 := (bb.cell hg).trans d4
          go_wp2_with fail
          clear y0 y1 y2 y3 y4
          refine wp_region_held_drew (S := fun w' => Below w4.heap.size w4 w') (by kernel_rfl) (Below.refl _ _).drew (fun hHeld => ?_)
          try dsimp only at hHeld
          have bbd := bb
          generalize w4.drew = wd at *
          try simp only [Act.put, List.setIfInBounds_toArray, List.set_cons_zero, List.set_cons_succ]
          refine wpAnyH_take (i := 0) (v := ?_) (by simp only [List.getElem?_toArray, List.getElem?_cons_zero]; rfl) (by kernel_rfl) (by kernel_rfl) (by kernel_rfl) (by intro _ _ _ h; exact h) (Or.inl ⟨by rfl, ?_⟩) hHeld ?_
          rotate_left 1
          · intro wq hSw
            try dsimp only at hSw
            go_simp
            try (with_reducible rfl)
          try simp only [Act.put, List.setIfInBounds_toArray, List.set_cons_zero, List.set_cons_succ]
          refine wpAnyH_take (i := 1) (v := ?_) (by simp only [List.getElem?_toArray, List.getElem?_cons_succ, List.getElem?_cons_zero]; rfl) (by kernel_rfl) (by kernel_rfl) (by kernel_rfl) (by intro _ _ _ h; exact h) (Or.inl ⟨by rfl, ?_⟩) hHeld ?_
          rotate_left 1
          · intro wq hSw
            try dsimp only at hSw
            go_simp
            try (with_reducible rfl)
          try simp only [Act.put, List.setIfInBounds_toArray, List.set_cons_zero, List.set_cons_succ]
          refine wpAnyH_take (i := 2) (v := ?_) (by simp only [List.getElem?_toArray, List.getElem?_cons_succ, List.getElem?_cons_zero]; rfl) (by kernel_rfl) (by kernel_rfl) (by kernel_rfl) (by intro _ _ _ h; exact h) (Or.inl ⟨by rfl, ?_⟩) hHeld ?_
          rotate_left 1
          · intro wq hSw
            try dsimp only at hSw
            go_simp
            try (with_reducible rfl)
          try simp only [Act.put, List.setIfInBounds_toArray, List.set_cons_zero, List.set_cons_succ]
          refine wpAnyH_take (i := 3) (v := ?_) (by simp only [List.getElem?_toArray, List.getElem?_cons_succ, List.getElem?_cons_zero]; rfl) (by kernel_rfl) (by kernel_rfl) (by kernel_rfl) (by intro _ _ _ h; exact h) (Or.inl ⟨by rfl, ?_⟩) hHeld ?_
          rotate_left 1
          · intro wq hSw
            try dsimp only at hSw
            have y0 := ((bbd.trans (hSw.mono bbd.size)).cell hg).trans d0
            have y1 := ((bbd.trans (hSw.mono bbd.size)).cell hg).trans d1
            have y2 := ((bbd.trans (hSw.mono bbd.size)).cell hg).trans d2
            have y3 := ((bbd.trans (hSw.mono bbd.size)).cell hg).trans d3
            have y4 := ((bbd.trans (hSw.mono bbd.size)).cell hg).trans d4
            go_simp
            try (with_reducible rfl)
          try simp only [Act.put, List.setIfInBounds_toArray, List.set_cons_zero, List.set_cons_succ]
          refine wpAnyH_ready (rs := [4]) (by kernel_rfl) (by simp) ?_
          refine AllReadyH.cons (by simp only [List.getElem?_toArray, List.getElem?_cons_succ, List.getElem?_cons_zero]; rfl) (fun K hK => ?_) AllReadyH.nil
          have hC := eCheck_any (la : Int) (ln : Int) x.k x.g Ai mi ci wd hxla
          rw [hck] at hC
          go_simp
          refine hC.mono ?_
          clear hC
          rintro e w6 ⟨rfl, b6⟩
          have bN := hHeld.trans (b6.mono hHeld.size)
          go_wp2_with fail
          refine hK.out _ _ (bN) (fun hHeld => ?_)
          clear hK K
          try dsimp only at hHeld
          clear b6 bN
          try simp only [Act.put, List.setIfInBounds_toArray, List.set_cons_zero, List.set_cons_succ]
          refine wpAnyH_take (i := 5) (v := ?_) (by simp only [List.getElem?_toArray, List.getElem?_cons_succ, List.getElem?_cons_zero]; rfl) (by kernel_rfl) (by kernel_rfl) (by kernel_rfl) (by intro _ _ _ h; exact h) (Or.inl ⟨by rfl, ?_⟩) hHeld ?_
          rotate_left 1
          · intro wq hSw
            try dsimp only at hSw
            go_simp
            try (with_reducible rfl)
          try simp only [Act.put, List.setIfInBounds_toArray, List.set_cons_zero, List.set_cons_succ]
          refine wpAnyH_take (i := 6) (v := ?_) (by simp only [List.getElem?_toArray, List.getElem?_cons_succ, List.getElem?_cons_zero]; rfl) (by kernel_rfl) (by kernel_rfl) (by kernel_rfl) (by intro _ _ _ h; exact h) (Or.inl ⟨by rfl, ?_⟩) hHeld ?_
          rotate_left 1
          · intro wq hSw
            try dsimp only at hSw
            go_simp
            try (with_reducible rfl)
          try simp only [Act.put, List.setIfInBounds_toArray, List.set_cons_zero, List.set_cons_succ]
          refine wpAnyH_take (i := 7) (v := ?_) (by simp only [List.getElem?_toArray, List.getElem?_cons_succ, List.getElem?_cons_zero]; rfl) (by kernel_rfl) (by kernel_rfl) (by kernel_rfl) (by intro _ _ _ h; exact h) (Or.inl ⟨by rfl, ?_⟩) hHeld ?_
          rotate_left 1
          · intro wq hSw
            try dsimp only at hSw
            go_simp
            try (with_reducible rfl)
          try simp only [Act.put, List.setIfInBounds_toArray, List.set_cons_zero, List.set_cons_succ]
          refine wpAnyH_take (i := 8) (v := ?_) (by simp only [List.getElem?_toArray, List.getElem?_cons_succ, List.getElem?_cons_zero]; rfl) (by kernel_rfl) (by kernel_rfl) (by kernel_rfl) (by intro _ _ _ h; exact h) (Or.inl ⟨by rfl, ?_⟩) hHeld ?_
          rotate_left 1
          · intro wq hSw
            try dsimp only at hSw
            go_simp
            try (with_reducible rfl)
          try simp only [Act.put, List.setIfInBounds_toArray, List.set_cons_zero, List.set_cons_succ]
          refine wpAnyH_take (i := 9) (v := ?_) (by simp only [List.getElem?_toArray, List.getElem?_cons_succ, List.getElem?_cons_zero]; rfl) (by kernel_rfl) (by kernel_rfl) (by kernel_rfl) (by intro _ _ _ h; exact h) (Or.inl ⟨by rfl, ?_⟩) hHeld ?_
          rotate_left 1
          · intro wq hSw
            try dsimp only at hSw
            go_simp
            try (with_reducible rfl)
          try simp only [Act.put, List.setIfInBounds_toArray, List.set_cons_zero, List.set_cons_succ]
          refine wpAnyH_take (i := 10) (v := ?_) (by simp only [List.getElem?_toArray, List.getElem?_cons_succ, List.getElem?_cons_zero]; rfl) (by kernel_rfl) (by kernel_rfl) (by kernel_rfl) (by intro _ _ _ h; exact h) (Or.inl ⟨by rfl, ?_⟩) hHeld ?_
          rotate_left 1
          · intro wq hSw
            try dsimp only at hSw
            have y0 := ((bbd.trans (hSw.mono bbd.size)).cell hg).trans d0
            have y1 := ((bbd.trans (hSw.mono bbd.size)).cell hg).trans d1
            have y2 := ((bbd.trans (hSw.mono bbd.size)).cell hg).trans d2
            have y3 := ((bbd.trans (hSw.mono bbd.size)).cell hg).trans d3
            have y4 := ((bbd.trans (hSw.mono bbd.size)).cell hg).trans d4
            go_simp
            try (with_reducible rfl)
          try simp only [Act.put, List.setIfInBounds_toArray, List.set_cons_zero, List.set_cons_succ]
          refine wpAnyH_take (i := 11) (v := ?_) (by simp only [List.getElem?_toArray, List.getElem?_cons_succ, List.getElem?_cons_zero]; rfl) (by kernel_rfl) (by kernel_rfl) (by kernel_rfl) (by intro _ _ _ h; exact h) (Or.inl ⟨by rfl, ?_⟩) hHeld ?_
          rotate_left 1
          · intro wq hSw
            try dsimp only at hSw
            go_simp
            try (with_reducible rfl)
          try simp only [Act.put, List.setIfInBounds_toArray, List.set_cons_zero, List.set_cons_succ]
          refine wpAnyH_take (i := 12) (v := ?_) (by simp only [List.getElem?_toArray, List.getElem?_cons_succ, List.getElem?_cons_zero]; rfl) (by kernel_rfl) (by kernel_rfl) (by kernel_rfl) (by intro _ _ _ h; exact h) (Or.inl ⟨by rfl, ?_⟩) hHeld ?_
          rotate_left 1
          · intro wq hSw
            try dsimp only at hSw
            go_simp
            try (with_reducible rfl)
          try simp only [Act.put, List.setIfInBounds_toArray, List.set_cons_zero, List.set_cons_succ]
          refine wpAnyH_take (i := 13) (v := ?_) (by simp only [List.getElem?_toArray, List.getElem?_cons_succ, List.getElem?_cons_zero]; rfl) (by kernel_rfl) (by kernel_rfl) (by kernel_rfl) (by intro _ _ _ h; exact h) (Or.inl ⟨by rfl, ?_⟩) hHeld ?_
          rotate_left 1
          · intro wq hSw
            try dsimp only at hSw
            go_simp
            try (with_reducible rfl)
          try simp only [Act.put, List.setIfInBounds_toArray, List.set_cons_zero, List.set_cons_succ]
          refine wpAnyH_take (i := 14) (v := ?_) (by simp only [List.getElem?_toArray, List.getElem?_cons_succ, List.getElem?_cons_zero]; rfl) (by kernel_rfl) (by kernel_rfl) (by kernel_rfl) (by intro _ _ _ h; exact h) (Or.inl ⟨by rfl, ?_⟩) hHeld ?_
          rotate_left 1
          · intro wq hSw
            try dsimp only at hSw
            go_simp
            try (with_reducible rfl)
          try simp only [Act.put, List.setIfInBounds_toArray, List.set_cons_zero, List.set_cons_succ]
          refine wpAnyH_take (i := 15) (v := ?_) (by simp only [List.getElem?_toArray, List.getElem?_cons_succ, List.getElem?_cons_zero]; rfl) (by kernel_rfl) (by kernel_rfl) (by kernel_rfl) (by intro _ _ _ h; exact h) (Or.inl ⟨by rfl, ?_⟩) hHeld ?_
          rotate_left 1
          · intro wq hSw
            try dsimp only at hSw
            have y0 := ((bbd.trans (hSw.mono bbd.size)).cell hg).trans d0
            have y1 := ((bbd.trans (hSw.mono bbd.size)).cell hg).trans d1
            have y2 := ((bbd.trans (hSw.mono bbd.size)).cell hg).trans d2
            have y3 := ((bbd.trans (hSw.mono bbd.size)).cell hg).trans d3
            have y4 := ((bbd.trans (hSw.mono bbd.size)).cell hg).trans d4
            go_simp
            try (with_reducible rfl)
          try simp only [Act.put, List.setIfInBounds_toArray, List.set_cons_zero, List.set_cons_succ]
          refine wpAnyH_take (i := 16) (v := ?_) (by simp only [List.getElem?_toArray, List.getElem?_cons_succ, List.getElem?_cons_zero]; rfl) (by kernel_rfl) (by kernel_rfl) (by kernel_rfl) (by intro _ _ _ h; exact h) (Or.inl ⟨by rfl, ?_⟩) hHeld ?_
          rotate_left 1
          · intro wq hSw
            try dsimp only at hSw
            go_simp
            try (with_reducible rfl)
          try simp only [Act.put, List.setIfInBounds_toArray, List.set_cons_zero, List.set_cons_succ]
          refine wpAnyH_take (i := 17) (v := ?_) (by simp only [List.getElem?_toArray, List.getElem?_cons_succ, List.getElem?_cons_zero]; rfl) (by kernel_rfl) (by kernel_rfl) (by kernel_rfl) (by intro _ _ _ h; exact h) (Or.inl ⟨by rfl, ?_⟩) hHeld ?_
          rotate_left 1
          · intro wq hSw
            try dsimp only at hSw
            go_simp
            try (with_reducible rfl)
          try simp only [Act.put, List.setIfInBounds_toArray, List.set_cons_zero, List.set_cons_succ]
          refine wpAnyH_take (i := 18) (v := (.bool true)) (by simp only [List.getElem?_toArray, List.getElem?_cons_succ, List.getElem?_cons_zero]; rfl) (by kernel_rfl) (by kernel_rfl) (by kernel_rfl) (by intro _ _ _ h; exact h) (Or.inl ⟨by rfl, ?_⟩) hHeld ?_
          · intro wq hSw
            try dsimp only at hSw
            go_simp
            all_goals (first | (rw [IntWalk.i64_left]; unfold wrap64; omega) | (simp only [IntWalk.i64_left]; unfold wrap64; omega))
          try simp only [Act.put, List.setIfInBounds_toArray, List.set_cons_zero, List.set_cons_succ]
          refine wpAnyH_take (i := 19) (v := ?_) (by simp only [List.getElem?_toArray, List.getElem?_cons_succ, List.getElem?_cons_zero]; rfl) (by kernel_rfl) (by kernel_rfl) (by kernel_rfl) (by intro _ _ _ h; exact h) (Or.inl ⟨by rfl, ?_⟩) hHeld ?_
          rotate_left 1
          · intro wq hSw
            try dsimp only at hSw
            go_simp
            try (with_reducible rfl)
          try simp only [Act.put, List.setIfInBounds_toArray, List.set_cons_zero, List.set_cons_succ]
          refine wpAnyH_take (i := 20) (v := ?_) (by simp only [List.getElem?_toArray, List.getElem?_cons_succ, List.getElem?_cons_zero]; rfl) (by kernel_rfl) (by kernel_rfl) (by kernel_rfl) (by intro _ _ _ h; exact h) (Or.inl ⟨by rfl, ?_⟩) hHeld ?_
          rotate_left 1
          · intro wq hSw
            try dsimp only at hSw
            go_simp
            try (with_reducible rfl)
          try simp only [Act.put, List.setIfInBounds_toArray, List.set_cons_zero, List.set_cons_succ]
          refine wpAnyH_done (by kernel_rfl) ?_ _
          have hC2 := fun W (hR : Rs extE (fun z => z ≠ kt) W A4 n4 c4 m2) => mCheck_any (N : Int) m2 A4 n4 c4 W hR (may_la hpm.out) (by omega)
          simp only [hpm.out] at hC2
          replace R4 := R4.below hHeld
          replace V := V.under hHeld
          replace bb := bb.trans (hHeld.mono bb.size)
          clear hHeld
          go_wp2_with fail
          refine (hC2 _ R4).mono ?_
          clear hC2
          rintro e w7 ⟨rfl, b7⟩
          replace R4 := R4.below b7
          replace V := V.under b7
          replace bb := bb.trans (b7.mono bb.size)
          clear b7
          have hTl := hpi.out.1
          rw [markF_len] at hTl
          replace hTl := Lib.hid hTl
          go_wp2_with fail
          go_loopg [14] ln (fun g i w9 => ∃ j : Nat, j + g = ln ∧ i = .int .i64 (j : Int) ∧ Blk w9 kt ((markF ts la j).map Value.bool).toArray 35 ∧ Rs extE (fun z => z ≠ kt) w9 A4 n4 c4 m2 ∧ Below w.heap.size w w9)
          case atStart => exact ⟨0, by omega, rfl, V, R4, bb⟩
          case round =>
            clear V R4 bb
            obtain ⟨j, hj, rfl, V, R4, bb⟩ := hrel
            have y0 := (bb.cell hg).trans d0
            have y1 := (bb.cell hg).trans d1
            have y2 := (bb.cell hg).trans d2
            have y3 := (bb.cell hg).trans d3
            have y4 := (bb.cell hg).trans d4
            by_cases hjl : (j : Int) < (ln : Int)
            · have hjn : la + j < 64 := by omega
              obtain ⟨tb, htb⟩ : ∃ tb, (markF ts la j)[la + j]? = some tb := ⟨_, List.getElem?_eq_getElem (by rw [markF_len, hTl.out]; exact hjn)⟩
              have z0 := blk_bool V htb
              have z1 := V.frozen (la + j)
              have V2 := blk_mark V
              have R5 := R4.far (a := ⟨kt, la + j, none⟩) (fun hh => hh rfl) (.bool true)
              have bb5 := bb.setCell (p := ⟨kt, la + j, none⟩) hkt (.bool true)
              clear V R4 bb htb
              obtain ⟨g2, rfl⟩ : ∃ g, gk = g + 1 := ⟨gk - 1, by omega⟩
              go_wp2
              go_roundg g2
              case measure => omega
              case rel => exact ⟨j + 1, by omega, by first | rfl | (simp; done) | (simp; exact wrap64_small (by omega) (by omega)), V2, R5, bb5⟩
            · obtain rfl : j = ln := by omega
              go_wp2_with fail
              clear y0 y1 y2 y3 y4
              have hC3 := fun W (hR : Rs extE (fun z => z ≠ kt) W A4 n4 c4 m2) => mRange_any (N : Int) m2 A4 n4 c4 (la : Int) (j : Int) W (by omega) hR (may_la hpm.out) (by omega)
              have hN1' := hN1.out
              simp only [hpm.out, Bool.true_eq_false, if_false, if_pos (show 0 ≤ (la : Int) ∧ 1 ≤ (j : Int) ∧ (j : Int) ≤ (N : Int) - (la : Int) by omega), hpp.out] at hC3
              clear hN1'
              refine wp_region_held_drew (S := fun w' => Below wr.heap.size wr w') (by kernel_rfl) (Below.refl _ _).drew (fun hHeld => ?_)
              try dsimp only at hHeld
              have bbd := bb
              replace R4 := R4.drew
              replace V := V.drew
              generalize wr.drew = wd at *
              try simp only [Act.put, List.setIfInBounds_toArray, List.set_cons_zero, List.set_cons_succ]
              refine wpAnyH_take (i := 0) (v := ?_) (by simp only [List.getElem?_toArray, List.getElem?_cons_zero]; rfl) (by kernel_rfl) (by kernel_rfl) (by kernel_rfl) (by intro _ _ _ h; exact h) (Or.inl ⟨by rfl, ?_⟩) hHeld ?_
              rotate_left 1
              · intro wq hSw
                try dsimp only at hSw
                go_simp
                try (with_reducible rfl)
              try simp only [Act.put, List.setIfInBounds_toArray, List.set_cons_zero, List.set_cons_succ]
              refine wpAnyH_take (i := 1) (v := ?_) (by simp only [List.getElem?_toArray, List.getElem?_cons_succ, List.getElem?_cons_zero]; rfl) (by kernel_rfl) (by kernel_rfl) (by kernel_rfl) (by intro _ _ _ h; exact h) (Or.inl ⟨by rfl, ?_⟩) hHeld ?_
              rotate_left 1
              · intro wq hSw
                try dsimp only at hSw
                go_simp
                try (with_reducible rfl)
              try simp only [Act.put, List.setIfInBounds_toArray, List.set_cons_zero, List.set_cons_succ]
              refine wpAnyH_take (i := 2) (v := ?_) (by simp only [List.getElem?_toArray, List.getElem?_cons_succ, List.getElem?_cons_zero]; rfl) (by kernel_rfl) (by kernel_rfl) (by kernel_rfl) (by intro _ _ _ h; exact h) (Or.inl ⟨by rfl, ?_⟩) hHeld ?_
              rotate_left 1
              · intro wq hSw
                try dsimp only at hSw
                go_simp
                try (with_reducible rfl)
              try simp only [Act.put, List.setIfInBounds_toArray, List.set_cons_zero, List.set_cons_succ]
              refine wpAnyH_take (i := 3) (v := ?_) (by simp only [List.getElem?_toArray, List.getElem?_cons_succ, List.getElem?_cons_zero]; rfl) (by kernel_rfl) (by kernel_rfl) (by kernel_rfl) (by intro _ _ _ h; exact h) (Or.inl ⟨by rfl, ?_⟩) hHeld ?_
              rotate_left 1
              · intro wq hSw
                try dsimp only at hSw
                go_simp
                try (with_reducible rfl)
              try simp only [Act.put, List.setIfInBounds_toArray, List.set_cons_zero, List.set_cons_succ]
              refine wpAnyH_take (i := 4) (v := ?_) (by simp only [List.getElem?_toArray, List.getElem?_cons_succ, List.getElem?_cons_zero]; rfl) (by kernel_rfl) (by kernel_rfl) (by kernel_rfl) (by intro _ _ _ h; exact h) (Or.inl ⟨by rfl, ?_⟩) hHeld ?_
              rotate_left 1
              · intro wq hSw
                try dsimp only at hSw
                go_simp
                try (with_reducible rfl)
              try simp only [Act.put, List.setIfInBounds_toArray, List.set_cons_zero, List.set_cons_succ]
              refine wpAnyH_take (i := 5) (v := ?_) (by simp only [List.getElem?_toArray, List.getElem?_cons_succ, List.getElem?_cons_zero]; rfl) (by kernel_rfl) (by kernel_rfl) (by kernel_rfl) (by intro _ _ _ h; exact h) (Or.inl ⟨by rfl, ?_⟩) hHeld ?_
              rotate_left 1
              · intro wq hSw
                try dsimp only at hSw
                go_simp
                try (with_reducible rfl)
              try simp only [Act.put, List.setIfInBounds_toArray, List.set_cons_zero, List.set_cons_succ]
              refine wpAnyH_take (i := 6) (v := ?_) (by simp only [List.getElem?_toArray, List.getElem?_cons_succ, List.getElem?_cons_zero]; rfl) (by kernel_rfl) (by kernel_rfl) (by kernel_rfl) (by intro _ _ _ h; exact h) (Or.inl ⟨by rfl, ?_⟩) hHeld ?_
              rotate_left 1
              · intro wq hSw
                try dsimp only at hSw
                have y0 := ((bbd.trans (hSw.mono bbd.size)).cell hg).trans d0
                have y1 := ((bbd.trans (hSw.mono bbd.size)).cell hg).trans d1
                have y2 := ((bbd.trans (hSw.mono bbd.size)).cell hg).trans d2
                have y3 := ((bbd.trans (hSw.mono bbd.size)).cell hg).trans d3
                have y4 := ((bbd.trans (hSw.mono bbd.size)).cell hg).trans d4
                go_simp
                try (with_reducible rfl)
              try simp only [Act.put, List.setIfInBounds_toArray, List.set_cons_zero, List.set_cons_succ]
              refine wpAnyH_take (i := 7) (v := ?_) (by simp only [List.getElem?_toArray, List.getElem?_cons_succ, List.getElem?_cons_zero]; rfl) (by kernel_rfl) (by kernel_rfl) (by kernel_rfl) (by intro _ _ _ h; exact h) (Or.inl ⟨by rfl, ?_⟩) hHeld ?_
              rotate_left 1
              · intro wq hSw
                try dsimp only at hSw
                go_simp
                try (with_reducible rfl)
              try simp only [Act.put, List.setIfInBounds_toArray, List.set_cons_zero, List.set_cons_succ]
              refine wpAnyH_take (i := 8) (v := ?_) (by simp only [List.getElem?_toArray, List.getElem?_cons_succ, List.getElem?_cons_zero]; rfl) (by kernel_rfl) (by kernel_rfl) (by kernel_rfl) (by intro _ _ _ h; exact h) (Or.inl ⟨by rfl, ?_⟩) hHeld ?_
              rotate_left 1
              · intro wq hSw
                try dsimp only at hSw
                go_simp
                try (with_reducible rfl)
              try simp only [Act.put, List.setIfInBounds_toArray, List.set_cons_zero, List.set_cons_succ]
              refine wpAnyH_take (i := 9) (v := ?_) (by simp only [List.getElem?_toArray, List.getElem?_cons_succ, List.getElem?_cons_zero]; rfl) (by kernel_rfl) (by kernel_rfl) (by kernel_rfl) (by intro _ _ _ h; exact h) (Or.inl ⟨by rfl, ?_⟩) hHeld ?_
              rotate_left 1
              · intro wq hSw
                try dsimp only at hSw
                go_simp
                try (with_reducible rfl)
              try simp only [Act.put, List.setIfInBounds_toArray, List.set_cons_zero, List.set_cons_succ]
              refine wpAnyH_take (i := 10) (v := ?_) (by simp only [List.getElem?_toArray, List.getElem?_cons_succ, List.getElem?_cons_zero]; rfl) (by kernel_rfl) (by kernel_rfl) (by kernel_rfl) (by intro _ _ _ h; exact h) (Or.inl ⟨by rfl, ?_⟩) hHeld ?_
              rotate_left 1
              · intro wq hSw
                try dsimp only at hSw
                go_simp
                try (with_reducible rfl)
              try simp only [Act.put, List.setIfInBounds_toArray, List.set_cons_zero, List.set_cons_succ]
              refine wpAnyH_take (i := 11) (v := ?_) (by simp only [List.getElem?_toArray, List.getElem?_cons_succ, List.getElem?_cons_zero]; rfl) (by kernel_rfl) (by kernel_rfl) (by kernel_rfl) (by intro _ _ _ h; exact h) (Or.inl ⟨by rfl, ?_⟩) hHeld ?_
              rotate_left 1
              · intro wq hSw
                try dsimp only at hSw
                have y0 := ((bbd.trans (hSw.mono bbd.size)).cell hg).trans d0
                have y1 := ((bbd.trans (hSw.mono bbd.size)).cell hg).trans d1
                have y2 := ((bbd.trans (hSw.mono bbd.size)).cell hg).trans d2
                have y3 := ((bbd.trans (hSw.mono bbd.size)).cell hg).trans d3
                have y4 := ((bbd.trans (hSw.mono bbd.size)).cell hg).trans d4
                go_simp
                try (with_reducible rfl)
              try simp only [Act.put, List.setIfInBounds_toArray, List.set_cons_zero, List.set_cons_succ]
              refine wpAnyH_ready (rs := [12]) (by kernel_rfl) (by simp) ?_
              refine AllReadyH.cons (by simp only [List.getElem?_toArray, List.getElem?_cons_succ, List.getElem?_cons_zero]; rfl) (fun K hK => ?_) AllReadyH.nil
              go_simp
              refine (hC3 wd R4).mono ?_
              clear hC3
              rintro e w9 ⟨A9, n9, c9, hm9, rfl, R9, b9⟩
              have bN := hHeld.trans (b9.mono hHeld.size)
              go_wp2_with fail
              refine hK.out _ _ (bN) (fun hHeld => ?_)
              clear hK K
              try dsimp only at hHeld
              obtain rfl : 1 = n9 := hm9.out
              clear hm9
              try simp only [Act.put, List.setIfInBounds_toArray, List.set_cons_zero, List.set_cons_succ]
              refine wpAnyH_take (i := 13) (v := ?_) (by simp only [List.getElem?_toArray, List.getElem?_cons_succ, List.getElem?_cons_zero]; rfl) (by kernel_rfl) (by kernel_rfl) (by kernel_rfl) (by intro _ _ _ h; exact h) (Or.inl ⟨by rfl, ?_⟩) hHeld ?_
              rotate_left 1
              · intro wq hSw
                try dsimp only at hSw
                go_simp
                try (with_reducible rfl)
              try simp only [Act.put, List.setIfInBounds_toArray, List.set_cons_zero, List.set_cons_succ]
              refine wpAnyH_take (i := 14) (v := ?_) (by simp only [List.getElem?_toArray, List.getElem?_cons_succ, List.getElem?_cons_zero]; rfl) (by kernel_rfl) (by kernel_rfl) (by kernel_rfl) (by intro _ _ _ h; exact h) (Or.inl ⟨by rfl, ?_⟩) hHeld ?_
              rotate_left 1
              · intro wq hSw
                try dsimp only at hSw
                go_simp
                try (with_reducible rfl)
              try simp only [Act.put, List.setIfInBounds_toArray, List.set_cons_zero, List.set_cons_succ]
              refine wpAnyH_take (i := 15) (v := ?_) (by simp only [List.getElem?_toArray, List.getElem?_cons_succ, List.getElem?_cons_zero]; rfl) (by kernel_rfl) (by kernel_rfl) (by kernel_rfl) (by intro _ _ _ h; exact h) (Or.inl ⟨by rfl, ?_⟩) hHeld ?_
              rotate_left 1
              · intro wq hSw
                try dsimp only at hSw
                go_simp
                try (with_reducible rfl)
              try simp only [Act.put, List.setIfInBounds_toArray, List.set_cons_zero, List.set_cons_succ]
              refine wpAnyH_take (i := 16) (v := ?_) (by simp only [List.getElem?_toArray, List.getElem?_cons_succ, List.getElem?_cons_zero]; rfl) (by kernel_rfl) (by kernel_rfl) (by kernel_rfl) (by intro _ _ _ h; exact h) (Or.inl ⟨by rfl, ?_⟩) hHeld ?_
              rotate_left 1
              · intro wq hSw
                try dsimp only at hSw
                go_simp
                try (with_reducible rfl)
              try simp only [Act.put, List.setIfInBounds_toArray, List.set_cons_zero, List.set_cons_succ]
              refine wpAnyH_take (i := 17) (v := ?_) (by simp only [List.getElem?_toArray, List.getElem?_cons_succ, List.getElem?_cons_zero]; rfl) (by kernel_rfl) (by kernel_rfl) (by kernel_rfl) (by intro _ _ _ h; exact h) (Or.inl ⟨by rfl, ?_⟩) hHeld ?_
              rotate_left 1
              · intro wq hSw
                try dsimp only at hSw
                go_simp
                try (with_reducible rfl)
              try simp only [Act.put, List.setIfInBounds_toArray, List.set_cons_zero, List.set_cons_succ]
              refine wpAnyH_done (by kernel_rfl) ?_ _
              replace R4 := R4.below b9
              replace V := V.under b9
              replace bb := bb.trans (hHeld.mono bb.size)
              clear b9 hHeld bbd
              obtain ⟨g9, o9, x9, A8, c8, rfl, _, hg9, hz9, e0, e1, e2, e3, e4, hS9, _⟩ := R9.ext_at (show 0 < 1 by decide)
              obtain rfl : x = x9 := by simpa using hz9
              simp only [Nat.zero_mul, Nat.add_zero] at e0 e1 e2 e3 e4
              rw [hlaN] at e0
              rw [hlnN] at e1
              rw [hmx.out] at e4 hS9
              clear hz9 R9
              go_wp2_with fail
              refine wp_region_held_drew (S := fun w' => Below w9.heap.size w9 w') (by kernel_rfl) (Below.refl _ _).drew (fun hHeld => ?_)
              try dsimp only at hHeld
              have bbd := bb
              generalize w9.drew = wd at *
              try simp only [Act.put, List.setIfInBounds_toArray, List.set_cons_zero, List.set_cons_succ]
              refine wpAnyH_take (i := 0) (v := ?_) (by simp only [List.getElem?_toArray, List.getElem?_cons_zero]; rfl) (by kernel_rfl) (by kernel_rfl) (by kernel_rfl) (by intro _ _ _ h; exact h) (Or.inl ⟨by rfl, ?_⟩) hHeld ?_
              rotate_left 1
              · intro wq hSw
                try dsimp only at hSw
                go_simp
                try (with_reducible rfl)
              try simp only [Act.put, List.setIfInBounds_toArray, List.set_cons_zero, List.set_cons_succ]
              refine wpAnyH_take (i := 1) (v := ?_) (by simp only [List.getElem?_toArray, List.getElem?_cons_succ, List.getElem?_cons_zero]; rfl) (by kernel_rfl) (by kernel_rfl) (by kernel_rfl) (by intro _ _ _ h; exact h) (Or.inl ⟨by rfl, ?_⟩) hHeld ?_
              rotate_left 1
              · intro wq hSw
                try dsimp only at hSw
                go_simp
                try (with_reducible rfl)
              try simp only [Act.put, List.setIfInBounds_toArray, List.set_cons_zero, List.set_cons_succ]
              refine wpAnyH_take (i := 2) (v := ?_) (by simp only [List.getElem?_toArray, List.getElem?_cons_succ, List.getElem?_cons_zero]; rfl) (by kernel_rfl) (by kernel_rfl) (by kernel_rfl) (by intro _ _ _ h; exact h) (Or.inl ⟨by rfl, ?_⟩) hHeld ?_
              rotate_left 1
              · intro wq hSw
                try dsimp only at hSw
                go_simp
                try (with_reducible rfl)
              try simp only [Act.put, List.setIfInBounds_toArray, List.set_cons_zero, List.set_cons_succ]
              refine wpAnyH_take (i := 3) (v := ?_) (by simp only [List.getElem?_toArray, List.getElem?_cons_succ, List.getElem?_cons_zero]; rfl) (by kernel_rfl) (by kernel_rfl) (by kernel_rfl) (by intro _ _ _ h; exact h) (Or.inl ⟨by rfl, ?_⟩) hHeld ?_
              rotate_left 1
              · intro wq hSw
                try dsimp only at hSw
                go_simp
                try (with_reducible rfl)
              try simp only [Act.put, List.setIfInBounds_toArray, List.set_cons_zero, List.set_cons_succ]
              refine wpAnyH_take (i := 4) (v := ?_) (by simp only [List.getElem?_toArray, List.getElem?_cons_succ, List.getElem?_cons_zero]; rfl) (by kernel_rfl) (by kernel_rfl) (by kernel_rfl) (by intro _ _ _ h; exact h) (Or.inl ⟨by rfl, ?_⟩) hHeld ?_
              rotate_left 1
              · intro wq hSw
                try dsimp only at hSw
                go_simp
                try (with_reducible rfl)
              try simp only [Act.put, List.setIfInBounds_toArray, List.set_cons_zero, List.set_cons_succ]
              refine wpAnyH_take (i := 5) (v := ?_) (by simp only [List.getElem?_toArray, List.getElem?_cons_succ, List.getElem?_cons_zero]; rfl) (by kernel_rfl) (by kernel_rfl) (by kernel_rfl) (by intro _ _ _ h; exact h) (Or.inl ⟨by rfl, ?_⟩) hHeld ?_
              rotate_left 1
              · intro wq hSw
                try dsimp only at hSw
                go_simp
                try (with_reducible rfl)
              try simp only [Act.put, List.setIfInBounds_toArray, List.set_cons_zero, List.set_cons_succ]
              refine wpAnyH_take (i := 6) (v := ?_) (by simp only [List.getElem?_toArray, List.getElem?_cons_succ, List.getElem?_cons_zero]; rfl) (by kernel_rfl) (by kernel_rfl) (by kernel_rfl) (by intro _ _ _ h; exact h) (Or.inl ⟨by rfl, ?_⟩) hHeld ?_
              rotate_left 1
              · intro wq hSw
                try dsimp only at hSw
                go_simp
                try (with_reducible rfl)
              try simp only [Act.put, List.setIfInBounds_toArray, List.set_cons_zero, List.set_cons_succ]
              refine wpAnyH_take (i := 7) (v := ?_) (by simp only [List.getElem?_toArray, List.getElem?_cons_succ, List.getElem?_cons_zero]; rfl) (by kernel_rfl) (by kernel_rfl) (by kernel_rfl) (by intro _ _ _ h; exact h) (Or.inl ⟨by rfl, ?_⟩) hHeld ?_
              rotate_left 1
              · intro wq hSw
                try dsimp only at hSw
                go_simp
                try (with_reducible rfl)
              try simp only [Act.put, List.setIfInBounds_toArray, List.set_cons_zero, List.set_cons_succ]
              refine wpAnyH_take (i := 8) (v := ?_) (by simp only [List.getElem?_toArray, List.getElem?_cons_succ, List.getElem?_cons_zero]; rfl) (by kernel_rfl) (by kernel_rfl) (by kernel_rfl) (by intro _ _ _ h; exact h) (Or.inl ⟨by rfl, ?_⟩) hHeld ?_
              rotate_left 1
              · intro wq hSw
                try dsimp only at hSw
                go_simp
                try (with_reducible rfl)
              try simp only [Act.put, List.setIfInBounds_toArray, List.set_cons_zero, List.set_cons_succ]
              refine wpAnyH_take (i := 9) (v := ?_) (by simp only [List.getElem?_toArray, List.getElem?_cons_succ, List.getElem?_cons_zero]; rfl) (by kernel_rfl) (by kernel_rfl) (by kernel_rfl) (by intro _ _ _ h; exact h) (Or.inl ⟨by rfl, ?_⟩) hHeld ?_
              rotate_left 1
              · intro wq hSw
                try dsimp only at hSw
                go_simp
                try (with_reducible rfl)
              try simp only [Act.put, List.setIfInBounds_toArray, List.set_cons_zero, List.set_cons_succ]
              refine wpAnyH_take (i := 10) (v := ?_) (by simp only [List.getElem?_toArray, List.getElem?_cons_succ, List.getElem?_cons_zero]; rfl) (by kernel_rfl) (by kernel_rfl) (by kernel_rfl) (by intro _ _ _ h; exact h) (Or.inl ⟨by rfl, ?_⟩) hHeld ?_
              rotate_left 1
              · intro wq hSw
                try dsimp only at hSw
                have y0 := (hSw.cell hg9).trans e0
                have y1 := (hSw.cell hg9).trans e1
                have y2 := (hSw.cell hg9).trans e2
                have y3 := (hSw.cell hg9).trans e3
                have y4 := (hSw.cell hg9).trans e4
                go_simp
                try (with_reducible rfl)
              try simp only [Act.put, List.setIfInBounds_toArray, List.set_cons_zero, List.set_cons_succ]
              refine wpAnyH_take (i := 11) (v := ?_) (by simp only [List.getElem?_toArray, List.getElem?_cons_succ, List.getElem?_cons_zero]; rfl) (by kernel_rfl) (by kernel_rfl) (by kernel_rfl) (by intro _ _ _ h; exact h) (Or.inl ⟨by rfl, ?_⟩) hHeld ?_
              rotate_left 1
              · intro wq hSw
                try dsimp only at hSw
                go_simp
                try (with_reducible rfl)
              try simp only [Act.put, List.setIfInBounds_toArray, List.set_cons_zero, List.set_cons_succ]
              refine wpAnyH_take (i := 12) (v := ?_) (by simp only [List.getElem?_toArray, List.getElem?_cons_succ, List.getElem?_cons_zero]; rfl) (by kernel_rfl) (by kernel_rfl) (by kernel_rfl) (by intro _ _ _ h; exact h) (Or.inl ⟨by rfl, ?_⟩) hHeld ?_
              rotate_left 1
              · intro wq hSw
                try dsimp only at hSw
                go_simp
                try (with_reducible rfl)
              try simp only [Act.put, List.setIfInBounds_toArray, List.set_cons_zero, List.set_cons_succ]
              refine wpAnyH_take (i := 13) (v := ?_) (by simp only [List.getElem?_toArray, List.getElem?_cons_succ, List.getElem?_cons_zero]; rfl) (by kernel_rfl) (by kernel_rfl) (by kernel_rfl) (by intro _ _ _ h; exact h) (Or.inl ⟨by rfl, ?_⟩) hHeld ?_
              rotate_left 1
              · intro wq hSw
                try dsimp only at hSw
                go_simp
                try (with_reducible rfl)
              try simp only [Act.put, List.setIfInBounds_toArray, List.set_cons_zero, List.set_cons_succ]
              refine wpAnyH_take (i := 14) (v := ?_) (by simp only [List.getElem?_toArray, List.getElem?_cons_succ, List.getElem?_cons_zero]; rfl) (by kernel_rfl) (by kernel_rfl) (by kernel_rfl) (by intro _ _ _ h; exact h) (Or.inl ⟨by rfl, ?_⟩) hHeld ?_
              rotate_left 1
              · intro wq hSw
                try dsimp only at hSw
                have y0 := ((bbd.trans (hSw.mono bbd.size)).cell hg).trans d0
                have y1 := ((bbd.trans (hSw.mono bbd.size)).cell hg).trans d1
                have y2 := ((bbd.trans (hSw.mono bbd.size)).cell hg).trans d2
                have y3 := ((bbd.trans (hSw.mono bbd.size)).cell hg).trans d3
                have y4 := ((bbd.trans (hSw.mono bbd.size)).cell hg).trans d4
                go_simp
                try (with_reducible rfl)
              try simp only [Act.put, List.setIfInBounds_toArray, List.set_cons_zero, List.set_cons_succ]
              refine wpAnyH_ready (rs := [15]) (by kernel_rfl) (by simp) ?_
              refine AllReadyH.cons (by simp only [List.getElem?_toArray, List.getElem?_cons_succ, List.getElem?_cons_zero]; rfl) (fun K hK => ?_) AllReadyH.nil
              have hC := fSame_eq (la : Int) (j : Int) x.k x.g A8 mi c8 x.l (la : Int) (j : Int) x.k x.g Ai mi ci x.l wd (hS9.below hHeld) (hS.below (bbd.trans (hHeld.mono bbd.size))) rfl
              go_simp
              refine hC.mono ?_
              clear hC
              rintro e w10 ⟨rfl, b10⟩
              have bN := hHeld.trans (b10.mono hHeld.size)
              go_wp2_with fail
              refine hK.out _ _ (bN) (fun hHeld => ?_)
              clear hK K
              try dsimp only at hHeld
              clear b10 bN
              try simp only [Act.put, List.setIfInBounds_toArray, List.set_cons_zero, List.set_cons_succ]
              refine wpAnyH_take (i := 16) (v := ?_) (by simp only [List.getElem?_toArray, List.getElem?_cons_succ, List.getElem?_cons_zero]; rfl) (by kernel_rfl) (by kernel_rfl) (by kernel_rfl) (by intro _ _ _ h; exact h) (Or.inl ⟨by rfl, ?_⟩) hHeld ?_
              rotate_left 1
              · intro wq hSw
                try dsimp only at hSw
                go_simp
                try (with_reducible rfl)
              try simp only [Act.put, List.setIfInBounds_toArray, List.set_cons_zero, List.set_cons_succ]
              refine wpAnyH_take (i := 17) (v := ?_) (by simp only [List.getElem?_toArray, List.getElem?_cons_succ, List.getElem?_cons_zero]; rfl) (by kernel_rfl) (by kernel_rfl) (by kernel_rfl) (by intro _ _ _ h; exact h) (Or.inl ⟨by rfl, ?_⟩) hHeld ?_
              rotate_left 1
              · intro wq hSw
                try dsimp only at hSw
                go_simp
                try (with_reducible rfl)
              try simp only [Act.put, List.setIfInBounds_toArray, List.set_cons_zero, List.set_cons_succ]
              refine wpAnyH_done (by kernel_rfl) ?_ _
              replace R4 := R4.below hHeld
              replace V := V.under hHeld
              replace bb := bb.trans (hHeld.mono bb.size)
              clear hHeld bbd hS9 e0 e1 e2 e3 e4
              go_wp2
              go_roundg g
              case measure => omega
              case rel => exact ⟨k + 1, A4, n4, c4, m2, _, by omega, rfl, by first | rfl | (simp; done) | (simp; exact wrap64_small (by omega) (by omega)), hm4, hpm, hpi, V, R4, bb⟩
        · skip
          have hf : ¬ mfit (N : Int) x = true := fun hf => by have := ((mfit_iff _ _).1 hf).2; omega
          simp only [hf, if_false] at hC1
          simp only [hlaN, hlnN] at hC1
          clear hf hok
          have y0 := (bb.cell hg).trans d0
          have y1 := (bb.cell hg).trans d1
          have y2 := (bb.cell hg).trans d2
          have y3 := (bb.cell hg).trans d3
          have y4 := (bb.cell hg).trans d4
          go_wp2_with fail
          refine (hC1 wr R (hS.below bb)).mono ?_
          clear hC1 y0 y1 y2 y3 y4
          rintro e w4 ⟨A4, n4, c4, hm4, rfl, R4, b4⟩
          obtain rfl : nr = n4 := hml.out.symm.trans hm4.out
          have hs4 := bb.size
          replace R4 := R4.imp (F' := fun z => z ≠ kt) (fun z _ hz => by have := V.lt; omega)
          replace R := R.below b4
          replace V := V.under b4
          replace bb := bb.trans (b4.mono bb.size)
          clear b4 hm4
          have y0 := (bb.cell hg).trans d0
          have y1 := (bb.cell hg).trans d1
          have y2 := (bb.cell hg).trans d2
          have y3 := (bb.cell hg).trans d3
          have y4 := (bb.cell hg).trans d4
          go_wp2_with fail
          clear y0 y1 y2 y3 y4
          refine wp_region_held_drew (S := fun w' => Below w4.heap.size w4 w') (by kernel_rfl) (Below.refl _ _).drew (fun hHeld => ?_)
          try dsimp only at hHeld
          have bbd := bb
          generalize w4.drew = wd at *
          try simp only [Act.put, List.setIfInBounds_toArray, List.set_cons_zero, List.set_cons_succ]
          refine wpAnyH_take (i := 0) (v := ?_) (by simp only [List.getElem?_toArray, List.getElem?_cons_zero]; rfl) (by kernel_rfl) (by kernel_rfl) (by kernel_rfl) (by intro _ _ _ h; exact h) (Or.inl ⟨by rfl, ?_⟩) hHeld ?_
          rotate_left 1
          · intro wq hSw
            try dsimp only at hSw
            go_simp
            try (with_reducible rfl)
          try simp only [Act.put, List.setIfInBounds_toArray, List.set_cons_zero, List.set_cons_succ]
          refine wpAnyH_take (i := 1) (v := ?_) (by simp only [List.getElem?_toArray, List.getElem?_cons_succ, List.getElem?_cons_zero]; rfl) (by kernel_rfl) (by kernel_rfl) (by kernel_rfl) (by intro _ _ _ h; exact h) (Or.inl ⟨by rfl, ?_⟩) hHeld ?_
          rotate_left 1
          · intro wq hSw
            try dsimp only at hSw
            go_simp
            try (with_reducible rfl)
          try simp only [Act.put, List.setIfInBounds_toArray, List.set_cons_zero, List.set_cons_succ]
          refine wpAnyH_take (i := 2) (v := ?_) (by simp only [List.getElem?_toArray, List.getElem?_cons_succ, List.getElem?_cons_zero]; rfl) (by kernel_rfl) (by kernel_rfl) (by kernel_rfl) (by intro _ _ _ h; exact h) (Or.inl ⟨by rfl, ?_⟩) hHeld ?_
          rotate_left 1
          · intro wq hSw
            try dsimp only at hSw
            go_simp
            try (with_reducible rfl)
          try simp only [Act.put, List.setIfInBounds_toArray, List.set_cons_zero, List.set_cons_succ]
          refine wpAnyH_take (i := 3) (v := ?_) (by simp only [List.getElem?_toArray, List.getElem?_cons_succ, List.getElem?_cons_zero]; rfl) (by kernel_rfl) (by kernel_rfl) (by kernel_rfl) (by intro _ _ _ h; exact h) (Or.inl ⟨by rfl, ?_⟩) hHeld ?_
          rotate_left 1
          · intro wq hSw
            try dsimp only at hSw
            have y0 := ((bbd.trans (hSw.mono bbd.size)).cell hg).trans d0
            have y1 := ((bbd.trans (hSw.mono bbd.size)).cell hg).trans d1
            have y2 := ((bbd.trans (hSw.mono bbd.size)).cell hg).trans d2
            have y3 := ((bbd.trans (hSw.mono bbd.size)).cell hg).trans d3
            have y4 := ((bbd.trans (hSw.mono bbd.size)).cell hg).trans d4
            go_simp
            try (with_reducible rfl)
          try simp only [Act.put, List.setIfInBounds_toArray, List.set_cons_zero, List.set_cons_succ]
          refine wpAnyH_ready (rs := [4]) (by kernel_rfl) (by simp) ?_
          refine AllReadyH.cons (by simp only [List.getElem?_toArray, List.getElem?_cons_succ, List.getElem?_cons_zero]; rfl) (fun K hK => ?_) AllReadyH.nil
          have hC := eCheck_any (la : Int) (ln : Int) x.k x.g Ai mi ci wd hxla
          rw [hck] at hC
          go_simp
          refine hC.mono ?_
          clear hC
          rintro e w6 ⟨rfl, b6⟩
          have bN := hHeld.trans (b6.mono hHeld.size)
          go_wp2_with fail
          refine hK.out _ _ (bN) (fun hHeld => ?_)
          clear hK K
          try dsimp only at hHeld
          clear b6 bN
          try simp only [Act.put, List.setIfInBounds_toArray, List.set_cons_zero, List.set_cons_succ]
          refine wpAnyH_take (i := 5) (v := ?_) (by simp only [List.getElem?_toArray, List.getElem?_cons_succ, List.getElem?_cons_zero]; rfl) (by kernel_rfl) (by kernel_rfl) (by kernel_rfl) (by intro _ _ _ h; exact h) (Or.inl ⟨by rfl, ?_⟩) hHeld ?_
          rotate_left 1
          · intro wq hSw
            try dsimp only at hSw
            go_simp
            try (with_reducible rfl)
          try simp only [Act.put, List.setIfInBounds_toArray, List.set_cons_zero, List.set_cons_succ]
          refine wpAnyH_take (i := 6) (v := ?_) (by simp only [List.getElem?_toArray, List.getElem?_cons_succ, List.getElem?_cons_zero]; rfl) (by kernel_rfl) (by kernel_rfl) (by kernel_rfl) (by intro _ _ _ h; exact h) (Or.inl ⟨by rfl, ?_⟩) hHeld ?_
          rotate_left 1
          · intro wq hSw
            try dsimp only at hSw
            go_simp
            try (with_reducible rfl)
          try simp only [Act.put, List.setIfInBounds_toArray, List.set_cons_zero, List.set_cons_succ]
          refine wpAnyH_take (i := 7) (v := ?_) (by simp only [List.getElem?_toArray, List.getElem?_cons_succ, List.getElem?_cons_zero]; rfl) (by kernel_rfl) (by kernel_rfl) (by kernel_rfl) (by intro _ _ _ h; exact h) (Or.inl ⟨by rfl, ?_⟩) hHeld ?_
          rotate_left 1
          · intro wq hSw
            try dsimp only at hSw
            go_simp
            try (with_reducible rfl)
          try simp only [Act.put, List.setIfInBounds_toArray, List.set_cons_zero, List.set_cons_succ]
          refine wpAnyH_take (i := 8) (v := ?_) (by simp only [List.getElem?_toArray, List.getElem?_cons_succ, List.getElem?_cons_zero]; rfl) (by kernel_rfl) (by kernel_rfl) (by kernel_rfl) (by intro _ _ _ h; exact h) (Or.inl ⟨by rfl, ?_⟩) hHeld ?_
          rotate_left 1
          · intro wq hSw
            try dsimp only at hSw
            go_simp
            try (with_reducible rfl)
          try simp only [Act.put, List.setIfInBounds_toArray, List.set_cons_zero, List.set_cons_succ]
          refine wpAnyH_take (i := 9) (v := ?_) (by simp only [List.getElem?_toArray, List.getElem?_cons_succ, List.getElem?_cons_zero]; rfl) (by kernel_rfl) (by kernel_rfl) (by kernel_rfl) (by intro _ _ _ h; exact h) (Or.inl ⟨by rfl, ?_⟩) hHeld ?_
          rotate_left 1
          · intro wq hSw
            try dsimp only at hSw
            go_simp
            try (with_reducible rfl)
          try simp only [Act.put, List.setIfInBounds_toArray, List.set_cons_zero, List.set_cons_succ]
          refine wpAnyH_take (i := 10) (v := ?_) (by simp only [List.getElem?_toArray, List.getElem?_cons_succ, List.getElem?_cons_zero]; rfl) (by kernel_rfl) (by kernel_rfl) (by kernel_rfl) (by intro _ _ _ h; exact h) (Or.inl ⟨by rfl, ?_⟩) hHeld ?_
          rotate_left 1
          · intro wq hSw
            try dsimp only at hSw
            have y0 := ((bbd.trans (hSw.mono bbd.size)).cell hg).trans d0
            have y1 := ((bbd.trans (hSw.mono bbd.size)).cell hg).trans d1
            have y2 := ((bbd.trans (hSw.mono bbd.size)).cell hg).trans d2
            have y3 := ((bbd.trans (hSw.mono bbd.size)).cell hg).trans d3
            have y4 := ((bbd.trans (hSw.mono bbd.size)).cell hg).trans d4
            go_simp
            try (with_reducible rfl)
          try simp only [Act.put, List.setIfInBounds_toArray, List.set_cons_zero, List.set_cons_succ]
          refine wpAnyH_take (i := 11) (v := ?_) (by simp only [List.getElem?_toArray, List.getElem?_cons_succ, List.getElem?_cons_zero]; rfl) (by kernel_rfl) (by kernel_rfl) (by kernel_rfl) (by intro _ _ _ h; exact h) (Or.inl ⟨by rfl, ?_⟩) hHeld ?_
          rotate_left 1
          · intro wq hSw
            try dsimp only at hSw
            go_simp
            try (with_reducible rfl)
          try simp only [Act.put, List.setIfInBounds_toArray, List.set_cons_zero, List.set_cons_succ]
          refine wpAnyH_take (i := 12) (v := ?_) (by simp only [List.getElem?_toArray, List.getElem?_cons_succ, List.getElem?_cons_zero]; rfl) (by kernel_rfl) (by kernel_rfl) (by kernel_rfl) (by intro _ _ _ h; exact h) (Or.inl ⟨by rfl, ?_⟩) hHeld ?_
          rotate_left 1
          · intro wq hSw
            try dsimp only at hSw
            go_simp
            try (with_reducible rfl)
          try simp only [Act.put, List.setIfInBounds_toArray, List.set_cons_zero, List.set_cons_succ]
          refine wpAnyH_take (i := 13) (v := ?_) (by simp only [List.getElem?_toArray, List.getElem?_cons_succ, List.getElem?_cons_zero]; rfl) (by kernel_rfl) (by kernel_rfl) (by kernel_rfl) (by intro _ _ _ h; exact h) (Or.inl ⟨by rfl, ?_⟩) hHeld ?_
          rotate_left 1
          · intro wq hSw
            try dsimp only at hSw
            go_simp
            try (with_reducible rfl)
          try simp only [Act.put, List.setIfInBounds_toArray, List.set_cons_zero, List.set_cons_succ]
          refine wpAnyH_take (i := 14) (v := ?_) (by simp only [List.getElem?_toArray, List.getElem?_cons_succ, List.getElem?_cons_zero]; rfl) (by kernel_rfl) (by kernel_rfl) (by kernel_rfl) (by intro _ _ _ h; exact h) (Or.inl ⟨by rfl, ?_⟩) hHeld ?_
          rotate_left 1
          · intro wq hSw
            try dsimp only at hSw
            go_simp
            try (with_reducible rfl)
          try simp only [Act.put, List.setIfInBounds_toArray, List.set_cons_zero, List.set_cons_succ]
          refine wpAnyH_take (i := 15) (v := ?_) (by simp only [List.getElem?_toArray, List.getElem?_cons_succ, List.getElem?_cons_zero]; rfl) (by kernel_rfl) (by kernel_rfl) (by kernel_rfl) (by intro _ _ _ h; exact h) (Or.inl ⟨by rfl, ?_⟩) hHeld ?_
          rotate_left 1
          · intro wq hSw
            try dsimp only at hSw
            have y0 := ((bbd.trans (hSw.mono bbd.size)).cell hg).trans d0
            have y1 := ((bbd.trans (hSw.mono bbd.size)).cell hg).trans d1
            have y2 := ((bbd.trans (hSw.mono bbd.size)).cell hg).trans d2
            have y3 := ((bbd.trans (hSw.mono bbd.size)).cell hg).trans d3
            have y4 := ((bbd.trans (hSw.mono bbd.size)).cell hg).trans d4
            go_simp
            try (with_reducible rfl)
          try simp only [Act.put, List.setIfInBounds_toArray, List.set_cons_zero, List.set_cons_succ]
          refine wpAnyH_take (i := 16) (v := ?_) (by simp only [List.getElem?_toArray, List.getElem?_cons_succ, List.getElem?_cons_zero]; rfl) (by kernel_rfl) (by kernel_rfl) (by kernel_rfl) (by intro _ _ _ h; exact h) (Or.inl ⟨by rfl, ?_⟩) hHeld ?_
          rotate_left 1
          · intro wq hSw
            try dsimp only at hSw
            go_simp
            try (with_reducible rfl)
          try simp only [Act.put, List.setIfInBounds_toArray, List.set_cons_zero, List.set_cons_succ]
          refine wpAnyH_take (i := 17) (v := ?_) (by simp only [List.getElem?_toArray, List.getElem?_cons_succ, List.getElem?_cons_zero]; rfl) (by kernel_rfl) (by kernel_rfl) (by kernel_rfl) (by intro _ _ _ h; exact h) (Or.inl ⟨by rfl, ?_⟩) hHeld ?_
          rotate_left 1
          · intro wq hSw
            try dsimp only at hSw
            go_simp
            try (with_reducible rfl)
          try simp only [Act.put, List.setIfInBounds_toArray, List.set_cons_zero, List.set_cons_succ]
          refine wpAnyH_take (i := 18) (v := (.bool false)) (by simp only [List.getElem?_toArray, List.getElem?_cons_succ, List.getElem?_cons_zero]; rfl) (by kernel_rfl) (by kernel_rfl) (by kernel_rfl) (by intro _ _ _ h; exact h) (Or.inl ⟨by rfl, ?_⟩) hHeld ?_
          · intro wq hSw
            try dsimp only at hSw
            go_simp
            all_goals (first | (rw [IntWalk.i64_left]; unfold wrap64; omega) | (simp only [IntWalk.i64_left]; unfold wrap64; omega))
          try simp only [Act.put, List.setIfInBounds_toArray, List.set_cons_zero, List.set_cons_succ]
          refine wpAnyH_take (i := 19) (v := ?_) (by simp only [List.getElem?_toArray, List.getElem?_cons_succ, List.getElem?_cons_zero]; rfl) (by kernel_rfl) (by kernel_rfl) (by kernel_rfl) (by intro _ _ _ h; exact h) (Or.inl ⟨by rfl, ?_⟩) hHeld ?_
          rotate_left 1
          · intro wq hSw
            try dsimp only at hSw
            go_simp
            try (with_reducible rfl)
          try simp only [Act.put, List.setIfInBounds_toArray, List.set_cons_zero, List.set_cons_succ]
          refine wpAnyH_take (i := 20) (v := ?_) (by simp only [List.getElem?_toArray, List.getElem?_cons_succ, List.getElem?_cons_zero]; rfl) (by kernel_rfl) (by kernel_rfl) (by kernel_rfl) (by intro _ _ _ h; exact h) (Or.inl ⟨by rfl, ?_⟩) hHeld ?_
          rotate_left 1
          · intro wq hSw
            try dsimp only at hSw
            go_simp
            try (with_reducible rfl)
          try simp only [Act.put, List.setIfInBounds_toArray, List.set_cons_zero, List.set_cons_succ]
          refine wpAnyH_done (by kernel_rfl) ?_ _
          have hC2 := fun W (hR : Rs extE (fun z => z ≠ kt) W A4 nr c4 ms) => mCheck_any (N : Int) ms A4 nr c4 W hR (may_la hmm.out) (by omega)
          simp only [hmm.out] at hC2
          replace R := R.below hHeld
          replace R4 := R4.below hHeld
          replace V := V.under hHeld
          replace bb := bb.trans (hHeld.mono bb.size)
          clear hHeld
          go_wp2_with fail
          refine (hC2 _ R4).mono ?_
          clear hC2
          rintro e w7 ⟨rfl, b7⟩
          replace R := R.below b7
          replace R4 := R4.below b7
          replace V := V.under b7
          replace bb := bb.trans (b7.mono bb.size)
          clear b7
          go_wp2_with fail
          refine (fAll_any ms A4 nr c4 Ar cr _ R4 R).mono ?_
          rintro e w8 ⟨rfl, b8⟩
          replace R4 := R4.below b8
          replace V := V.under b8
          replace bb := bb.trans (b8.mono bb.size)
          clear b8 R
          have y0 := (bb.cell hg).trans d0
          have y1 := (bb.cell hg).trans d1
          have y2 := (bb.cell hg).trans d2
          have y3 := (bb.cell hg).trans d3
          have y4 := (bb.cell hg).trans d4
          go_wp2_with fail
          go_loopg [14] 0 (fun g i w9 => w8 = w9 ∧ i = .int .i64 0)
          case atStart => exact ⟨rfl, rfl⟩
          case round =>
            obtain ⟨rfl, rfl⟩ := hrel
            go_wp2
            go_roundg g
            case measure => omega
            case rel => exact ⟨k + 1, A4, nr, c4, ms, ts, by omega, rfl, by first | rfl | (simp; done) | (simp; exact wrap64_small (by omega) (by omega)), hml, hmm, hmi, V, R4, bb⟩
      · have hok2 : x.ok = false := by simpa using hok
        rw [hok2] at hck
        have hf : ¬ mfit (N : Int) x = true := fun hf => hok ((mfit_iff _ _).1 hf).1
        simp only [hf, if_false] at hC1
        clear hf hok
        have y0 := (bb.cell hg).trans d0
        have y1 := (bb.cell hg).trans d1
        have y2 := (bb.cell hg).trans d2
        have y3 := (bb.cell hg).trans d3
        have y4 := (bb.cell hg).trans d4
        go_wp2_with fail
        refine (hC1 wr R (hS.below bb)).mono ?_
        clear hC1 y0 y1 y2 y3 y4
        rintro e w4 ⟨A4, n4, c4, hm4, rfl, R4, b4⟩
        obtain rfl : nr = n4 := hml.out.symm.trans hm4.out
        have hs4 := bb.size
        replace R4 := R4.imp (F' := fun z => z ≠ kt) (fun z _ hz => by have := V.lt; omega)
        replace R := R.below b4
        replace V := V.under b4
        replace bb := bb.trans (b4.mono bb.size)
        clear b4 hm4
        have y0 := (bb.cell hg).trans d0
        have y1 := (bb.cell hg).trans d1
        have y2 := (bb.cell hg).trans d2
        have y3 := (bb.cell hg).trans d3
        have y4 := (bb.cell hg).trans d4
        go_wp2_with fail
        clear y0 y1 y2 y3 y4
        refine wp_region_held_drew (S := fun w' => Below w4.heap.size w4 w') (by kernel_rfl) (Below.refl _ _).drew (fun hHeld => ?_)
        try dsimp only at hHeld
        have bbd := bb
        generalize w4.drew = wd at *
        try simp only [Act.put, List.setIfInBounds_toArray, List.set_cons_zero, List.set_cons_succ]
        refine wpAnyH_take (i := 0) (v := ?_) (by simp only [List.getElem?_toArray, List.getElem?_cons_zero]; rfl) (by kernel_rfl) (by kernel_rfl) (by kernel_rfl) (by intro _ _ _ h; exact h) (Or.inl ⟨by rfl, ?_⟩) hHeld ?_
        rotate_left 1
        · intro wq hSw
          try dsimp only at hSw
          go_simp
          try (with_reducible rfl)
        try simp only [Act.put, List.setIfInBounds_toArray, List.set_cons_zero, List.set_cons_succ]
        refine wpAnyH_take (i := 1) (v := ?_) (by simp only [List.getElem?_toArray, List.getElem?_cons_succ, List.getElem?_cons_zero]; rfl) (by kernel_rfl) (by kernel_rfl) (by kernel_rfl) (by intro _ _ _ h; exact h) (Or.inl ⟨by rfl, ?_⟩) hHeld ?_
        rotate_left 1
        · intro wq hSw
          try dsimp only at hSw
          go_simp
          try (with_reducible rfl)
        try simp only [Act.put, List.setIfInBounds_toArray, List.set_cons_zero, List.set_cons_succ]
        refine wpAnyH_take (i := 2) (v := ?_) (by simp only [List.getElem?_toArray, List.getElem?_cons_succ, List.getElem?_cons_zero]; rfl) (by kernel_rfl) (by kernel_rfl) (by kernel_rfl) (by intro _ _ _ h; exact h) (Or.inl ⟨by rfl, ?_⟩) hHeld ?_
        rotate_left 1
        · intro wq hSw
          try dsimp only at hSw
          go_simp
          try (with_reducible rfl)
        try simp only [Act.put, List.setIfInBounds_toArray, List.set_cons_zero, List.set_cons_succ]
        refine wpAnyH_take (i := 3) (v := ?_) (by simp only [List.getElem?_toArray, List.getElem?_cons_succ, List.getElem?_cons_zero]; rfl) (by kernel_rfl) (by kernel_rfl) (by kernel_rfl) (by intro _ _ _ h; exact h) (Or.inl ⟨by rfl, ?_⟩) hHeld ?_
        rotate_left 1
        · intro wq hSw
          try dsimp only at hSw
          have y0 := ((bbd.trans (hSw.mono bbd.size)).cell hg).trans d0
          have y1 := ((bbd.trans (hSw.mono bbd.size)).cell hg).trans d1
          have y2 := ((bbd.trans (hSw.mono bbd.size)).cell hg).trans d2
          have y3 := ((bbd.trans (hSw.mono bbd.size)).cell hg).trans d3
          have y4 := ((bbd.trans (hSw.mono bbd.size)).cell hg).trans d4
          go_simp
          try (with_reducible rfl)
        try simp only [Act.put, List.setIfInBounds_toArray, List.set_cons_zero, List.set_cons_succ]
        refine wpAnyH_ready (rs := [4]) (by kernel_rfl) (by simp) ?_
        refine AllReadyH.cons (by simp only [List.getElem?_toArray, List.getElem?_cons_succ, List.getElem?_cons_zero]; rfl) (fun K hK => ?_) AllReadyH.nil
        have hC := eCheck_any x.la x.n x.k x.g Ai mi ci wd hxla
        rw [hck] at hC
        go_simp
        refine hC.mono ?_
        clear hC
        rintro e w6 ⟨rfl, b6⟩
        have bN := hHeld.trans (b6.mono hHeld.size)
        go_wp2_with fail
        refine hK.out _ _ (bN) (fun hHeld => ?_)
        clear hK K
        try dsimp only at hHeld
        clear b6 bN
        try simp only [Act.put, List.setIfInBounds_toArray, List.set_cons_zero, List.set_cons_succ]
        refine wpAnyH_take (i := 5) (v := ?_) (by simp only [List.getElem?_toArray, List.getElem?_cons_succ, List.getElem?_cons_zero]; rfl) (by kernel_rfl) (by kernel_rfl) (by kernel_rfl) (by intro _ _ _ h; exact h) (Or.inl ⟨by rfl, ?_⟩) hHeld ?_
        rotate_left 1
        · intro wq hSw
          try dsimp only at hSw
          go_simp
          try (with_reducible rfl)
        try simp only [Act.put, List.setIfInBounds_toArray, List.set_cons_zero, List.set_cons_succ]
        refine wpAnyH_take (i := 6) (v := undef) (by simp only [List.getElem?_toArray, List.getElem?_cons_succ, List.getElem?_cons_zero]; rfl) (by kernel_rfl) (by kernel_rfl) (by kernel_rfl) (by intro _ _ _ h; exact h) (Or.inr ⟨by rfl, rfl⟩) hHeld ?_
        try simp only [Act.put, List.setIfInBounds_toArray, List.set_cons_zero, List.set_cons_succ]
        refine wpAnyH_take (i := 7) (v := undef) (by simp only [List.getElem?_toArray, List.getElem?_cons_succ, List.getElem?_cons_zero]; rfl) (by kernel_rfl) (by kernel_rfl) (by kernel_rfl) (by intro _ _ _ h; exact h) (Or.inr ⟨by rfl, rfl⟩) hHeld ?_
        try simp only [Act.put, List.setIfInBounds_toArray, List.set_cons_zero, List.set_cons_succ]
        refine wpAnyH_take (i := 8) (v := undef) (by simp only [List.getElem?_toArray, List.getElem?_cons_succ, List.getElem?_cons_zero]; rfl) (by kernel_rfl) (by kernel_rfl) (by kernel_rfl) (by intro _ _ _ h; exact h) (Or.inr ⟨by rfl, rfl⟩) hHeld ?_
        try simp only [Act.put, List.setIfInBounds_toArray, List.set_cons_zero, List.set_cons_succ]
        refine wpAnyH_take (i := 9) (v := undef) (by simp only [List.getElem?_toArray, List.getElem?_cons_succ, List.getElem?_cons_zero]; rfl) (by kernel_rfl) (by kernel_rfl) (by kernel_rfl) (by intro _ _ _ h; exact h) (Or.inr ⟨by rfl, rfl⟩) hHeld ?_
        try simp only [Act.put, List.setIfInBounds_toArray, List.set_cons_zero, List.set_cons_succ]
        refine wpAnyH_take (i := 10) (v := undef) (by simp only [List.getElem?_toArray, List.getElem?_cons_succ, List.getElem?_cons_zero]; rfl) (by kernel_rfl) (by kernel_rfl) (by kernel_rfl) (by intro _ _ _ h; exact h) (Or.inr ⟨by rfl, rfl⟩) hHeld ?_
        try simp only [Act.put, List.setIfInBounds_toArray, List.set_cons_zero, List.set_cons_succ]
        refine wpAnyH_take (i := 11) (v := undef) (by simp only [List.getElem?_toArray, List.getElem?_cons_succ, List.getElem?_cons_zero]; rfl) (by kernel_rfl) (by kernel_rfl) (by kernel_rfl) (by intro _ _ _ h; exact h) (Or.inr ⟨by rfl, rfl⟩) hHeld ?_
        try simp only [Act.put, List.setIfInBounds_toArray, List.set_cons_zero, List.set_cons_succ]
        refine wpAnyH_take (i := 12) (v := undef) (by simp only [List.getElem?_toArray, List.getElem?_cons_succ, List.getElem?_cons_zero]; rfl) (by kernel_rfl) (by kernel_rfl) (by kernel_rfl) (by intro _ _ _ h; exact h) (Or.inr ⟨by rfl, rfl⟩) hHeld ?_
        try simp only [Act.put, List.setIfInBounds_toArray, List.set_cons_zero, List.set_cons_succ]
        refine wpAnyH_take (i := 13) (v := undef) (by simp only [List.getElem?_toArray, List.getElem?_cons_succ, List.getElem?_cons_zero]; rfl) (by kernel_rfl) (by kernel_rfl) (by kernel_rfl) (by intro _ _ _ h; exact h) (Or.inr ⟨by rfl, rfl⟩) hHeld ?_
        try simp only [Act.put, List.setIfInBounds_toArray, List.set_cons_zero, List.set_cons_succ]
        refine wpAnyH_take (i := 14) (v := undef) (by simp only [List.getElem?_toArray, List.getElem?_cons_succ, List.getElem?_cons_zero]; rfl) (by kernel_rfl) (by kernel_rfl) (by kernel_rfl) (by intro _ _ _ h; exact h) (Or.inr ⟨by rfl, rfl⟩) hHeld ?_
        try simp only [Act.put, List.setIfInBounds_toArray, List.set_cons_zero, List.set_cons_succ]
        refine wpAnyH_take (i := 15) (v := undef) (by simp only [List.getElem?_toArray, List.getElem?_cons_succ, List.getElem?_cons_zero]; rfl) (by kernel_rfl) (by kernel_rfl) (by kernel_rfl) (by intro _ _ _ h; exact h) (Or.inr ⟨by rfl, rfl⟩) hHeld ?_
        try simp only [Act.put, List.setIfInBounds_toArray, List.set_cons_zero, List.set_cons_succ]
        refine wpAnyH_take (i := 16) (v := undef) (by simp only [List.getElem?_toArray, List.getElem?_cons_succ, List.getElem?_cons_zero]; rfl) (by kernel_rfl) (by kernel_rfl) (by kernel_rfl) (by intro _ _ _ h; exact h) (Or.inr ⟨by rfl, rfl⟩) hHeld ?_
        try simp only [Act.put, List.setIfInBounds_toArray, List.set_cons_zero, List.set_cons_succ]
        refine wpAnyH_take (i := 17) (v := undef) (by simp only [List.getElem?_toArray, List.getElem?_cons_succ, List.getElem?_cons_zero]; rfl) (by kernel_rfl) (by kernel_rfl) (by kernel_rfl) (by intro _ _ _ h; exact h) (Or.inr ⟨by rfl, rfl⟩) hHeld ?_
        try simp only [Act.put, List.setIfInBounds_toArray, List.set_cons_zero, List.set_cons_succ]
        refine wpAnyH_take (i := 18) (v := undef) (by simp only [List.getElem?_toArray, List.getElem?_cons_succ, List.getElem?_cons_zero]; rfl) (by kernel_rfl) (by kernel_rfl) (by kernel_rfl) (by intro _ _ _ h; exact h) (Or.inr ⟨by rfl, rfl⟩) hHeld ?_
        try simp only [Act.put, List.setIfInBounds_toArray, List.set_cons_zero, List.set_cons_succ]
        refine wpAnyH_take (i := 19) (v := ?_) (by simp only [List.getElem?_toArray, List.getElem?_cons_succ, List.getElem?_cons_zero]; rfl) (by kernel_rfl) (by kernel_rfl) (by kernel_rfl) (by intro _ _ _ h; exact h) (Or.inl ⟨by rfl, ?_⟩) hHeld ?_
        rotate_left 1
        · intro wq hSw
          try dsimp only at hSw
          go_simp
          try (with_reducible rfl)
        try simp only [Act.put, List.setIfInBounds_toArray, List.set_cons_zero, List.set_cons_succ]
        refine wpAnyH_take (i := 20) (v := ?_) (by simp only [List.getElem?_toArray, List.getElem?_cons_succ, List.getElem?_cons_zero]; rfl) (by kernel_rfl) (by kernel_rfl) (by kernel_rfl) (by intro _ _ _ h; exact h) (Or.inl ⟨by rfl, ?_⟩) hHeld ?_
        rotate_left 1
        · intro wq hSw
          try dsimp only at hSw
          go_simp
          try (with_reducible rfl)
        try simp only [Act.put, List.setIfInBounds_toArray, List.set_cons_zero, List.set_cons_succ]
        refine wpAnyH_done (by kernel_rfl) ?_ _
        have hC2 := fun W (hR : Rs extE (fun z => z ≠ kt) W A4 nr c4 ms) => mCheck_any (N : Int) ms A4 nr c4 W hR (may_la hmm.out) (by omega)
        simp only [hmm.out] at hC2
        replace R := R.below hHeld
        replace R4 := R4.below hHeld
        replace V := V.under hHeld
        replace bb := bb.trans (hHeld.mono bb.size)
        clear hHeld
        go_wp2_with fail
        refine (hC2 _ R4).mono ?_
        clear hC2
        rintro e w7 ⟨rfl, b7⟩
        replace R := R.below b7
        replace R4 := R4.below b7
        replace V := V.under b7
        replace bb := bb.trans (b7.mono bb.size)
        clear b7
        go_wp2_with fail
        refine (fAll_any ms A4 nr c4 Ar cr _ R4 R).mono ?_
        rintro e w8 ⟨rfl, b8⟩
        replace R4 := R4.below b8
        replace V := V.under b8
        replace bb := bb.trans (b8.mono bb.size)
        clear b8 R
        have y0 := (bb.cell hg).trans d0
        have y1 := (bb.cell hg).trans d1
        have y2 := (bb.cell hg).trans d2
        have y3 := (bb.cell hg).trans d3
        have y4 := (bb.cell hg).trans d4
        go_wp2_with fail
        go_loopg [14] 0 (fun g i w9 => w8 = w9 ∧ i = .int .i64 0)
        case atStart => exact ⟨rfl, rfl⟩
        case round =>
          obtain ⟨rfl, rfl⟩ := hrel
          go_wp2
          go_roundg g
          case measure => omega
          case rel => exact ⟨k + 1, A4, nr, c4, ms, ts, by omega, rfl, by first | rfl | (simp; done) | (simp; exact wrap64_small (by omega) (by omega)), hml, hmm, hmi, V, R4, bb⟩
    · obtain rfl : k = n := by omega
      clear hlt hk
      have hN64' := hN64.out
      have hnr : nr ≤ 64 := by rw [← hml.out]; exact may_len hmm.out
      go_wp2_with fail
      go_loopg [17] N (fun g i w9 => ∃ j : Nat, j + g = N ∧ i = .int .i64 (j : Int) ∧ Blk w9 kt (ts.map Value.bool).toArray 35 ∧ Rs extE (fun z => z ≠ kt) w9 Ar nr cr ms ∧ Below w.heap.size w w9)
      case atStart => exact ⟨0, by omega, rfl, V, R, bb⟩
      case round =>
        clear V R bb
        obtain ⟨j, hj, rfl, V, R, bb⟩ := hrel
        by_cases hjl : (j : Int) < (N : Int)
        · obtain ⟨g, rfl⟩ : ∃ g, gk = g + 1 := ⟨gk - 1, by omega⟩
          obtain ⟨y, hpy, hmy⟩ := mparts_one hmm.out (k := (j : Int)) (by omega) hjl
          have hC3 := mRange_any (N : Int) ms Ar nr cr (j : Int) 1 wr (by omega) R (may_la hmm.out) (by omega)
          simp only [hmm.out, Bool.true_eq_false, if_false, if_pos (show 0 ≤ (j : Int) ∧ (1 : Int) ≤ 1 ∧ 1 ≤ (N : Int) - (j : Int) by omega), hpy] at hC3
          obtain ⟨tb, htb⟩ : ∃ tb, ts[j]? = some tb := ⟨_, List.getElem?_eq_getElem (by rw [hmi.out.1]; omega)⟩
          have htn : tb = false → y = ⟨j, 1, 0, 0, []⟩ := fun e => by have := hmi.out.2 j hjl (by rw [htb, e]); rw [hmy] at this; exact Option.some.inj this
          clear hpy hmy
          replace htb := Lib.hid htb
          replace htn := Lib.hid htn
          go_wp2_with fail
          refine hC3.mono ?_
          clear hC3
          rintro e w9 ⟨A9, n9, c9, hm9, rfl, R9, b9⟩
          obtain rfl : 1 = n9 := hm9.out
          clear hm9
          replace R := R.below b9
          replace V := V.under b9
          replace bb := bb.trans (b9.mono bb.size)
          clear b9
          have z0 := blk_bool V htb.out
          cases tb
          · have hy := htn.out rfl
            subst hy
            obtain ⟨g9, o9, x9, A8, c8, rfl, _, hg9, hz9, e0, e1, e2, e3, e4, hS9, _⟩ := R9.ext_at (show 0 < 1 by decide)
            obtain rfl : (⟨(j : Int), 1, 0, 0, []⟩ : Xp) = x9 := by simpa using hz9
            simp only [Nat.zero_mul, Nat.add_zero, List.length_nil] at e0 e1 e2 e3 e4 hS9
            clear hz9 R9
            have hj64 : j < 64 := by omega
            go_wp2_with fail
            refine (fSame_eq (j : Int) 1 0 0 A8 0 c8 [] (j : Int) 1 0 0 none 0 0 [] w9 hS9 (Sl.nil _) rfl).mono ?_
            rintro e w10 ⟨rfl, b10⟩
            replace R := R.below b10
            replace V := V.under b10
            replace bb := bb.trans (b10.mono bb.size)
            clear b10 e0 e1 e2 e3 e4 z0
            go_wp2
            go_roundg g
            case measure => omega
            case rel => exact ⟨j + 1, by omega, by first | rfl | (simp; done) | (simp; exact wrap64_small (by omega) (by omega)), V, R, bb⟩
          · clear R9
            have hj64 : j < 64 := by omega
            go_wp2
            go_roundg g
            case measure => omega
            case rel => exact ⟨j + 1, by omega, by first | rfl | (simp; done) | (simp; exact wrap64_small (by omega) (by omega)), V, R, bb⟩
        · obtain rfl : j = N := by omega
          obtain ⟨v0, v1, v2, m0, m1, m2, p0, p1, p2, ps⟩ := may_many hmm.out
          have q0 : v0 ≤ 64 := by omega
          have q1 : v1 ≤ 64 := by omega
          have q2 : v2 ≤ 64 := by omega
          clear hjl hj V
          have hC := mMany_any ms Ar nr cr 0 wr R (may_la hmm.out) (by omega)
          rw [m0] at hC
          go_wp2_with fail
          refine hC.mono ?_
          clear hC
          rintro e w9 ⟨rfl, b9⟩
          replace R := R.below b9
          replace bb := bb.trans (b9.mono bb.size)
          clear b9
          have hC := mMany_any ms Ar nr cr 1 w9 R (may_la hmm.out) (by omega)
          rw [m1] at hC
          go_wp2_with fail
          refine hC.mono ?_
          clear hC
          rintro e w10 ⟨rfl, b9⟩
          replace R := R.below b9
          replace bb := bb.trans (b9.mono bb.size)
          clear b9
          have hC := mMany_any ms Ar nr cr 2 w10 R (may_la hmm.out) (by omega)
          rw [m2] at hC
          go_wp2_with fail
          refine hC.mono ?_
          clear hC
          rintro e w11 ⟨rfl, b9⟩
          replace bb := bb.trans (b9.mono bb.size)
          clear b9
          go_wp2
          go_ret
          exact ⟨rfl, bb⟩
theorem ExtmapMay_walk (a0 : Int) (a1 : Option Addr) (len1 cap1 : Nat) (w : World) (w0 : (Lit.int .u8 a0).wf = true) (w1 : IsSts [.num .i64, .num .i64, .num .i64, .num .i64, .row .u8] w a1 len1 cap1) :
    Calls Try.prog 4 #[.int .u8 a0, .slice a1 len1 cap1] w (AwakePost w) := by
  obtain ⟨xs, hla, h⟩ := exts_of_sts w1
  exact may8_core a0 xs a1 len1 cap1 w h hla (bounds_u8 w0)
end Go.Proofs.Ytepaojegcaapfaa
