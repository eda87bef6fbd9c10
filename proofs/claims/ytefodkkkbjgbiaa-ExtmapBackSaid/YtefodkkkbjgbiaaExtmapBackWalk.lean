/-
  ExtmapBack: the walk (written by gen_emback.py).
-/
import Derived.Test.YtefodkkkbjgbiaaEmAwake
import Derived.Test.YtefodkkkbjgbiaaEmMath2
import Derived.Test.YtefodkkkbjgbiaaArgs
namespace Go.Wag
open Go.RowKit
set_option linter.unusedVariables false
theorem since_all2 {l : List Xp} (h : ∀ x ∈ l, 0 ≤ x.g) : msince l (-1) = l := by
  unfold msince
  rw [List.filter_eq_self]
  intro x hx
  have := h x hx
  exact decide_eq_true (by omega)
end Go.Wag
namespace Go.Proofs.Ytefodkkkbjgbiaa
open Go.RowKit Go.Wag
set_option linter.unusedVariables false
set_option linter.unusedSimpArgs false
theorem lay_at2 {P : Program} {f : FuncId} {args : Array Value} {w : World} {xs zs : List Xp} {r : Option (List Xp)} {er : Int} (h : Calls P f args w (LayPost w xs r)) (hz : r.getD xs = zs) (he : errOf r 81 = er) : Calls P f args w (LErr w zs er) := by
  subst hz he
  exact h
set_option maxRecDepth 100000 in
set_option maxHeartbeats 8000000 in
theorem back8_core (b : Int) (xs : List Xp) (A : Option Addr) (n c : Nat) (gv : Int) (w : World) (h : Rs extE (fun z => z < w.heap.size) w A n c xs) (hla : ∀ x ∈ xs, x.la ≤ 9223372036854775807) :
    Calls Try.prog 8 #[.int .i64 b, .slice A n c, .int .i64 gv] w (AwakePost w) := by
  have HN : Hid (xs.length = n) := h.len
  have hcap := h.cap
  have hbig := h.big
  obtain ⟨iX, hiX, hzX, hsX, hbX⟩ := iExt
  go_enter Try.func8, Try.ntmps8
  go_wp2_with fail
  refine (awake8_any w).mono ?_
  rintro e w1 ⟨rfl, bb⟩
  go_wp2_with fail
  refine (few_any xs A n c w1 (h.below bb)).mono ?_
  rintro e w2 ⟨fr, rfl, hfew, rfl⟩
  cases fr
  · go_wp2
    go_ret
    exact ⟨rfl, bb⟩
  have hn70 := (hfew rfl).1
  clear hfew
  have hC := mCheck_any b xs A n c w1 (h.below bb) hla (by omega)
  cases hm : mapB b xs
  · rw [hm] at hC
    go_wp2_with fail
    refine hC.mono ?_
    rintro e w2 ⟨rfl, b2⟩
    go_wp2
    go_ret
    exact ⟨rfl, bb.trans (b2.mono bb.size)⟩
  rw [hm] at hC
  obtain ⟨hb1, hb64, hrun, _⟩ := (mapB_iff _ _).1 hm
  have hok := mrun_ok hrun
  have e1 := since_all2 (l := xs) (fun x hx => (Xp.all (hok x hx)).2.2.2.2.2.1)
  have e2 := mlays_back hm
  have e3 := mlays_since hm gv
  have e4 := mnew_map hb1 hb64
  have hl3 : (msince xs gv).length ≤ n := by rw [← HN.out]; exact List.length_filter_le ..
  have hla3 : ∀ x ∈ msince xs gv, x.la ≤ 9223372036854775807 := fun x hx => hla x (List.mem_filter.1 hx).1
  have hlr : ∀ x ∈ xs.reverse, x.la ≤ 9223372036854775807 := fun x hx => hla x (List.mem_reverse.1 hx)
  have hlr2 : xs.reverse.length = n := by rw [List.length_reverse]; exact HN.out
  clear hrun hok
  go_wp2_with fail
  refine hC.mono ?_
  clear hC
  rintro e w2 ⟨rfl, b2⟩
  have bb2 := bb.trans (b2.mono bb.size)
  clear b2
  have hC := mNew_any b w2
  rw [if_pos ⟨hb1, hb64⟩, if_pos ⟨hb1, hb64⟩] at hC
  go_wp2_with fail
  refine hC.mono ?_
  clear hC
  rintro e w3 ⟨A3, n3, c3, hn3, rfl, R3, b3⟩
  obtain rfl : 1 = n3 := hn3.out
  have bb3 := bb2.trans (b3.mono bb2.size)
  clear b3 hn3 bb bb2
  replace hm := Lib.hid hm
  replace e1 := Lib.hid e1
  replace e2 := Lib.hid e2
  replace e3 := Lib.hid e3
  replace e4 := Lib.hid e4
  replace hlr2 := Lib.hid hlr2
  replace hl3 := Lib.hid hl3
  have hw3 := bb3.size
  go_wp2_with fail
  go_loopg [10, 11] n (fun g o i wr => ∃ (k : Nat) (Ar : Option Addr) (cr : Nat), k + g = n ∧ o = .slice Ar k cr ∧ i = .int .i64 (k : Int) ∧ Rq extE (fun z => z < w.heap.size) w3.heap.size 35 wr Ar k cr (xs.reverse.take k) ∧ Below w3.heap.size w3 wr)
  case atStart => exact ⟨0, none, 0, by omega, rfl, rfl, Rq.nil _ _ _ _ _, Below.refl _ _⟩
  case round =>
    obtain ⟨k, Ar, cr, hk, rfl, rfl, R, bw⟩ := hrel
    by_cases hlt : (k : Int) < (n : Int)
    · obtain ⟨g, rfl⟩ : ∃ g, gk = g + 1 := ⟨gk - 1, by omega⟩
      have hjn : n - 1 - k < n := by omega
      obtain ⟨gb, o, x, Ai, ci, rfl, _, hg, hz, c0', c1', c2', c3', c4', hS, hAi⟩ := h.ext_at hjn
      have hrz : xs.reverse[k]? = some x := by
        rw [List.getElem?_reverse (by have := HN.out; omega), ← hz]
        congr 1
        have := HN.out
        omega
      have htk := take_one hrz
      have bbw := bb3.trans (bw.mono hw3)
      have y0 := (bbw.cell hg).trans c0'
      have y1 := (bbw.cell hg).trans c1'
      have y2 := (bbw.cell hg).trans c2'
      have y3 := (bbw.cell hg).trans c3'
      have y4 := (bbw.cell hg).trans c4'
      have hro := R.lt
      have hrd : extE.rd (fun z => z < w.heap.size ∧ (Value.slice Ar k cr).ownBlock ≠ some z) wr [.int .i64 x.la, .int .i64 x.n, .int .i64 x.k, .int .i64 x.g, .slice Ai x.l.length ci] x :=
        ⟨Ai, ci, rfl, hS.below bbw, fun h0 ad e => ⟨hAi h0 ad e, fun e2 => by have := (hro _ e2).1; have := hAi h0 ad e; omega⟩⟩
      have a1 := (Below.refl wr.heap.size wr).alloc (Nat.le_refl _) (.cells #[.int .i64 x.la, .int .i64 x.n, .int .i64 x.k, .int .i64 x.g, .slice Ai x.l.length ci] 35)
      have Bs := Blk.new wr #[.int .i64 x.la, .int .i64 x.n, .int .i64 x.k, .int .i64 x.g, .slice Ai x.l.length ci] 35
      replace R := R.under a1
      replace hrd := Elt.below hrd a1
      replace bw := bw.trans (a1.mono bw.size)
      have hs4 := bw.size
      obtain ⟨A5, c5, w5, hr, R5, gr, hlies⟩ := R.app (P := Try.prog) (T := 22) (ty := 22) Try.underlying22 hiX hzX hsX hbX rfl hs4 (by omega) (by omega) hrd (one_ext _ _ _ _ _ _ _) Bs
      have hro5 := R.lt
      have bw6 := bw.grown gr hs4 (fun z hz => (hro5 z hz).1)
      rw [← htk] at R5
      replace hrz := Lib.hid hrz
      clear hro hro5 gr hrd Bs hlies R bw a1 bbw htk c0' c1' c2' c3' c4' hS hAi
      go_wp2_with (at_builtin; refine wpList_run rfl (.tmp 43) (.tmp 52) 22 rfl rfl rfl hr ?_; intro _)
      go_roundg g
      case measure => omega
      case rel => exact ⟨k + 1, A5, c5, by omega, rfl, by first | rfl | (simp; done) | (simp; exact wrap64_small (by omega) (by omega)), R5, bw6⟩
    · obtain rfl : k = n := by omega
      rw [List.take_of_length_le (by have := hlr2.out; omega)] at R
      have Rt := (R.imp (F' := fun _ => True) (fun _ _ _ => trivial)).toRs (fun _ _ _ => trivial)
      replace bb3 := bb3.trans (bw.mono hw3)
      replace R3 := R3.below bw
      clear R bw
      replace h := h.below bb3
      have hC0 := mLay_any b (mnew b) A3 1 c3 xs.reverse Ar k cr wr R3 (map_la e4.out) (by omega) Rt hlr
      rw [e4.out, if_neg (by decide), e2.out] at hC0
      replace hC0 := lay_at2 (zs := xs) (er := 0) hC0 rfl rfl
      go_wp2_with fail
      have hC := hC0
      refine hC.mono ?_
      clear hC
      rintro e w4 ⟨L4, m4, d4, hm4, rfl, S4, b4⟩
      replace h := h.below b4
      replace Rt := Rt.below b4
      replace R3 := R3.below b4
      replace bb3 := bb3.trans (b4.mono bb3.size)
      obtain rfl : k = m4 := HN.out.symm.trans hm4.out
      clear hC0
      have hC0 := mSince_any b xs A k c gv w4 h hla (by omega)
      rw [hm.out, if_neg (by decide)] at hC0
      go_wp2_with fail
      have hC := hC0
      refine hC.mono ?_
      clear hC
      rintro e w5 ⟨L5, m5, d5, hm5, rfl, S5, b5⟩
      replace h := h.below b5
      replace Rt := Rt.below b5
      replace R3 := R3.below b5
      replace S4 := S4.below b5
      replace bb3 := bb3.trans (b5.mono bb3.size)
      skip
      clear hC0
      have hC0 := mSince_any b xs A k c (-1) w5 h hla (by omega)
      rw [hm.out, if_neg (by decide), e1.out] at hC0
      go_wp2_with fail
      have hC := hC0
      refine hC.mono ?_
      clear hC
      rintro e w6 ⟨L6, m6, d6, hm6, rfl, S6, b6⟩
      replace h := h.below b6
      replace Rt := Rt.below b6
      replace R3 := R3.below b6
      replace S4 := S4.below b6
      replace S5 := S5.below b6
      replace bb3 := bb3.trans (b6.mono bb3.size)
      obtain rfl : k = m6 := HN.out.symm.trans hm6.out
      clear hC0
      have hC0 := mLay_any b xs A k c (msince xs gv) L5 m5 d5 w6 h hla (by omega) S5 hla3
      rw [hm.out, if_neg (by decide), e3.out] at hC0
      replace hC0 := lay_at2 (zs := xs) (er := 0) hC0 rfl rfl
      go_wp2_with fail
      have hC := hC0
      refine hC.mono ?_
      clear hC
      rintro e w7 ⟨L7, m7, d7, hm7, rfl, S7, b7⟩
      replace h := h.below b7
      replace Rt := Rt.below b7
      replace R3 := R3.below b7
      replace S4 := S4.below b7
      replace S5 := S5.below b7
      replace S6 := S6.below b7
      replace bb3 := bb3.trans (b7.mono bb3.size)
      obtain rfl : k = m7 := HN.out.symm.trans hm7.out
      clear hC0
      go_wp2_with fail
      have hC := fAll_any xs L4 k d4 A c w7 S4 h
      refine hC.mono ?_
      clear hC
      rintro e x0 ⟨rfl, e0'⟩
      replace h := h.below e0'
      replace Rt := Rt.below e0'
      replace R3 := R3.below e0'
      replace S4 := S4.below e0'
      replace S5 := S5.below e0'
      replace S6 := S6.below e0'
      replace S7 := S7.below e0'
      replace bb3 := bb3.trans (e0'.mono bb3.size)
      go_wp2_with fail
      have hC := fAll_any xs L7 k d7 A c x0 S7 h
      refine hC.mono ?_
      clear hC
      rintro e x1 ⟨rfl, e1'⟩
      replace h := h.below e1'
      replace Rt := Rt.below e1'
      replace R3 := R3.below e1'
      replace S4 := S4.below e1'
      replace S5 := S5.below e1'
      replace S6 := S6.below e1'
      replace S7 := S7.below e1'
      replace bb3 := bb3.trans (e1'.mono bb3.size)
      go_wp2_with fail
      have hC := fAll_any xs L6 k d6 A c x1 S6 h
      refine hC.mono ?_
      clear hC
      rintro e x2 ⟨rfl, e2'⟩
      replace h := h.below e2'
      replace Rt := Rt.below e2'
      replace R3 := R3.below e2'
      replace S4 := S4.below e2'
      replace S5 := S5.below e2'
      replace S6 := S6.below e2'
      replace S7 := S7.below e2'
      replace bb3 := bb3.trans (e2'.mono bb3.size)
      go_wp2
      go_ret
      exact ⟨rfl, bb3⟩
theorem ExtmapBack_walk (a0 : Int) (a1 : Option Addr) (len1 cap1 : Nat) (a2 : Int) (w : World) (w0 : (Lit.int .i64 a0).wf = true) (w1 : IsSts [.num .i64, .num .i64, .num .i64, .num .i64, .row .u8] w a1 len1 cap1) (w2 : (Lit.int .i64 a2).wf = true) :
    Calls Try.prog 8 #[.int .i64 a0, .slice a1 len1 cap1, .int .i64 a2] w (AwakePost w) := by
  obtain ⟨xs, hla, h⟩ := exts_of_sts w1
  exact back8_core a0 xs a1 len1 cap1 a2 w h hla
end Go.Proofs.Ytefodkkkbjgbiaa
