/-
  ExtmapMany: the walk (written by gen_emmany.py).
-/
import Derived.Test.YtefodkkkbjgbiaaEmAwake
import Derived.Test.YtefodkkkbjgbiaaArgs
namespace Go.Wag
open Go.RowKit
/-- The greatest generation of some. -/
def topG : List Xp → Int
  | [] => 0
  | x :: l => max x.g (topG l)
theorem since_all {l : List Xp} (h : ∀ x ∈ l, 0 ≤ x.g) : msince l (-1) = l := by
  unfold msince
  rw [List.filter_eq_self]
  intro x hx
  have := h x hx
  exact decide_eq_true (by omega)
theorem since_none {l : List Xp} {g : Int} (h : ∀ x ∈ l, x.g ≤ g) : msince l g = [] := by
  unfold msince
  rw [List.filter_eq_nil_iff]
  intro x hx
  have := h x hx
  simp
  omega
end Go.Wag
namespace Go.Proofs.Ytefodkkkbjgbiaa
open Go.RowKit Go.Wag
set_option linter.unusedVariables false
set_option linter.unusedSimpArgs false
set_option maxRecDepth 100000 in
set_option maxHeartbeats 8000000 in
theorem emMany_core {F : Nat → Prop} (b : Int) (xs : List Xp) (A : Option Addr) (n c : Nat) (w : World) (h : Rs extE F w A n c xs) (hla : ∀ x ∈ xs, x.la ≤ 9223372036854775807) :
    Calls Try.prog 10 #[.int .i64 b, .slice A n c] w (AwakePost w) := by
  have HN : Hid (xs.length = n) := h.len
  have hcap := h.cap
  have hbig := h.big
  have hA := awake8_any w
  by_cases h64 : (n : Int) > 64
  · go_enter Try.func10, Try.ntmps10
    go_wp2_with fail
    refine hA.mono ?_
    rintro e w1 ⟨rfl, b1⟩
    go_wp2
    go_ret
    exact ⟨rfl, b1⟩
  have hn64 : n ≤ 64 := by omega
  cases hm : mapB b xs
  · go_enter Try.func10, Try.ntmps10
    go_wp2_with fail
    refine hA.mono ?_
    rintro e w1 ⟨rfl, b1⟩
    have hC := mCheck_any b xs A n c w1 (h.below b1) hla (by omega)
    rw [hm] at hC
    go_wp2_with fail
    refine hC.mono ?_
    rintro e w2 ⟨rfl, b2⟩
    go_wp2
    go_ret
    exact ⟨rfl, b1.trans (b2.mono b1.size)⟩
  obtain ⟨hb1, hb64, hrun, hap⟩ := (mapB_iff _ _).1 hm
  have hok := mrun_ok hrun
  have e1 := since_all (l := xs) (fun x hx => (Xp.all (hok x hx)).2.2.2.2.2.1)
  have e2 := mparts_whole hrun hb64
  have e3 := mmany_all hrun
  have e4 := mmany_le xs 0
  have e5 := mmany_le xs 1
  have e6 := mmany_le xs 2
  rw [HN.out] at e4 e5 e6
  obtain ⟨k0, hk0⟩ : ∃ k, mmany xs 0 = k := ⟨_, rfl⟩
  obtain ⟨k1, hk1⟩ : ∃ k, mmany xs 1 = k := ⟨_, rfl⟩
  obtain ⟨k2, hk2⟩ : ∃ k, mmany xs 2 = k := ⟨_, rfl⟩
  rw [hk0] at e3 e4
  rw [hk1] at e3 e5
  rw [hk2] at e3 e6
  have s1 : wrap64 (k0 + k1) = k0 + k1 := by unfold wrap64; omega
  have s2 : wrap64 (k0 + k1 + k2) = b := by unfold wrap64; omega
  obtain ⟨ks, hks⟩ : ∃ k, k0 + k1 = k := ⟨_, rfl⟩
  rw [hks] at s2
  replace s1 := s1.trans hks
  clear e3 e4 e5 e6 hks hap
  replace hok := Lib.hid hok
  replace hrun := Lib.hid hrun
  have hmi : ¬ ((64 : Int) < (n : Int)) := by omega
  go_enter Try.func10, Try.ntmps10
  go_wp2_with fail
  refine hA.mono ?_
  clear hA
  rintro e w1 ⟨rfl, b1⟩
  have hC := mCheck_any b xs A n c w1 (h.below b1) hla (by omega)
  rw [hm] at hC
  replace hm := Lib.hid hm
  go_wp2_with fail
  refine hC.mono ?_
  clear hC
  rintro e w2 ⟨rfl, b2⟩
  have bb2 := b1.trans (b2.mono b1.size)
  clear b1 b2
  go_wp2_with fail
  go_loopg [6, 7] n (fun g o i wr => ∃ (k : Nat) (v : Int), k + g = n ∧ o = .int .i64 v ∧ i = .int .i64 (k : Int) ∧ Hid (∀ x ∈ xs.take k, x.g ≤ v) ∧ 0 ≤ v ∧ v ≤ 2147483647 ∧ w2 = wr)
  case atStart => exact ⟨0, 0, by omega, rfl, rfl, fun x hx => by simp at hx, by omega, by omega, rfl⟩
  case round =>
    obtain ⟨k, v, hk, rfl, rfl, hv, hv0, hv1, rfl⟩ := hrel
    by_cases hlt : (k : Int) < (n : Int)
    · obtain ⟨g, rfl⟩ : ∃ g, gk = g + 1 := ⟨gk - 1, by omega⟩
      obtain ⟨gb, o, x, Ai, ci, rfl, _, hg, hz, c0', c1', c2', c3', c4', hS, _⟩ := h.ext_at (show k < n by omega)
      have y3 := (bb2.cell hg).trans c3'
      have y4 := (bb2.cell hg).trans c4'
      have hxo := hok.out x (List.mem_of_getElem? hz)
      have hxl := Xp.len_le hxo
      have hx3 : ¬ (x.l.length : Int) > 3000 := by omega
      have hxa := Xp.all hxo
      obtain ⟨m, hm2⟩ : ∃ m, (if v < x.g then x.g else v) = m := ⟨_, rfl⟩
      have hm3 : 0 ≤ m ∧ m ≤ 2147483647 ∧ x.g ≤ m ∧ v ≤ m := by rw [← hm2]; split <;> omega
      have hst : Hid (∀ y ∈ xs.take (k + 1), y.g ≤ m) := fun y hy => by
        rw [take_one hz] at hy
        rcases List.mem_append.1 hy with h1 | h1
        · have := hv.out y h1
          omega
        · rw [List.mem_singleton.1 h1]
          exact hm3.2.2.1
      clear hxo hxl hxa c0' c1' c2' c3' c4' hS
      go_wp2
      go_roundg g
      case measure => omega
      case rel => exact ⟨k + 1, m, by omega, rfl, by first | rfl | (simp; done), hst, hm3.1, hm3.2.1, rfl⟩
    · obtain rfl : k = n := by omega
      have hvn : msince xs v = [] := since_none (fun x hx => hv.out x (by rw [List.take_of_length_le (by have := HN.out; omega)]; exact hx))
      clear hv
      have hC := mSince_any b xs A k c (-1) w2 (h.below bb2) hla (by omega)
      rw [if_neg (by rw [hm.out]; decide), e1] at hC
      go_wp2_with fail
      refine hC.mono ?_
      clear hC
      rintro e w3 ⟨A3, n3, c3, hn3, rfl, R3, b3⟩
      obtain rfl : k = n3 := by have := hn3.out; have := HN.out; omega
      have bb3 := bb2.trans (b3.mono bb2.size)
      clear R3 b3 hn3
      have hC := mSince_any b xs A k c v w3 (h.below bb3) hla (by omega)
      rw [if_neg (by rw [hm.out]; decide), hvn] at hC
      go_wp2_with fail
      refine hC.mono ?_
      clear hC
      rintro e w4 ⟨A4, n4, c4, hn4, rfl, R4, b4⟩
      obtain rfl : 0 = n4 := hn4.out
      have bb4 := bb3.trans (b4.mono bb3.size)
      clear R4 b4 hn4
      have hC := mRange_any b xs A k c 0 b w4 (by decide) (h.below bb4) hla (by omega)
      rw [if_neg (by rw [hm.out]; decide), if_pos (by omega), e2] at hC
      go_wp2_with fail
      refine hC.mono ?_
      clear hC
      rintro e w5 ⟨A5, n5, c5, hn5, rfl, R5, b5⟩
      obtain rfl : k = n5 := by have := hn5.out; have := HN.out; omega
      have bb5 := bb4.trans (b5.mono bb4.size)
      clear R5 b5 hn5
      have hC := mMany_any xs A k c 0 w5 (h.below bb5) hla (by omega)
      rw [hk0] at hC
      go_wp2_with fail
      refine hC.mono ?_
      clear hC
      rintro e w6 ⟨rfl, b6⟩
      have bb6 := bb5.trans (b6.mono bb5.size)
      clear b6
      have hC := mMany_any xs A k c 1 w6 (h.below bb6) hla (by omega)
      rw [hk1] at hC
      go_wp2_with fail
      refine hC.mono ?_
      clear hC
      rintro e w7 ⟨rfl, b7⟩
      have bb7 := bb6.trans (b7.mono bb6.size)
      clear b7
      have hC := mMany_any xs A k c 2 w7 (h.below bb7) hla (by omega)
      rw [hk2] at hC
      go_wp2_with fail
      refine hC.mono ?_
      clear hC
      rintro e w8 ⟨rfl, b8⟩
      have bb8 := bb7.trans (b8.mono bb7.size)
      clear b8
      go_wp2
      go_ret
      exact ⟨rfl, bb8⟩
theorem ExtmapMany_walk (a0 : Int) (a1 : Option Addr) (len1 cap1 : Nat) (w : World) (w0 : (Lit.int .i64 a0).wf = true) (w1 : IsSts [.num .i64, .num .i64, .num .i64, .num .i64, .row .u8] w a1 len1 cap1) :
    Calls Try.prog 10 #[.int .i64 a0, .slice a1 len1 cap1] w (AwakePost w) := by
  obtain ⟨xs, hla, h⟩ := exts_of_sts w1
  exact emMany_core a0 xs a1 len1 cap1 w h hla
end Go.Proofs.Ytefodkkkbjgbiaa
