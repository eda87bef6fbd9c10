/-
  ExtmapTells: the walk (written by gen_emtells.py).
-/
import Derived.Test.YtefodkkkbjgbiaaEmAwake
import Derived.Test.YtefodkkkbjgbiaaEmRef
import Derived.Test.YtefodkkkbjgbiaaArgs
namespace Go.Proofs.Ytefodkkkbjgbiaa
open Go.RowKit Go.Wag
set_option linter.unusedVariables false
set_option linter.unusedSimpArgs false
theorem both_range {F : Nat → Prop} (b : Int) (xs : List Xp) (A : Option Addr) (n c : Nat) (lba m : Int) (hlb : lba ≤ 9223372036854775807) (hla : ∀ x ∈ xs, x.la ≤ 9223372036854775807) (hn : n ≤ 1000000000) : ∃ ys er, (∀ W, Rs extE F W A n c xs → Calls Try.prog 25 #[.int .i64 b, .slice A n c, .int .i64 lba, .int .i64 m] W (LErr W ys er)) ∧ (∀ W, Rs extE F W A n c xs → Calls Try.prog 26 #[.int .i64 b, .slice A n c, .int .i64 lba, .int .i64 m] W (RErr W ys er)) := by
  have h1 := fun W h => mRange_any (F := F) b xs A n c lba m W hlb h hla hn
  have h2 := fun W h => rmRange_any (F := F) b xs A n c lba m W hlb h hn
  cases hm : mapB b xs
  · rw [hm] at h1 h2
    simp only [if_true] at h1 h2
    exact ⟨_, _, h1, h2⟩
  · rw [hm] at h1 h2
    simp only [Bool.true_eq_false, if_false] at h1 h2
    by_cases hc : 0 ≤ lba ∧ 1 ≤ m ∧ m ≤ b - lba
    · simp only [if_pos hc] at h1 h2
      exact ⟨_, _, h1, h2⟩
    · simp only [if_neg hc] at h1 h2
      exact ⟨_, _, h1, h2⟩
theorem both_since {F : Nat → Prop} (b : Int) (xs : List Xp) (A : Option Addr) (n c : Nat) (gv : Int) (hla : ∀ x ∈ xs, x.la ≤ 9223372036854775807) (hn : n ≤ 1000000000) : ∃ ys er, (∀ W, Rs extE F W A n c xs → Calls Try.prog 27 #[.int .i64 b, .slice A n c, .int .i64 gv] W (LErr W ys er)) ∧ (∀ W, Rs extE F W A n c xs → Calls Try.prog 28 #[.int .i64 b, .slice A n c, .int .i64 gv] W (RErr W ys er)) := by
  have h1 := fun W h => mSince_any (F := F) b xs A n c gv W h hla hn
  have h2 := fun W (h : Rs extE F W A n c xs) => rmSince_any b xs A n c gv W (h.imp (fun z hz _ => hz)) hn
  cases hm : mapB b xs
  · rw [hm] at h1 h2
    simp only [if_true] at h1 h2
    exact ⟨_, _, h1, h2⟩
  · rw [hm] at h1 h2
    simp only [Bool.true_eq_false, if_false] at h1 h2
    exact ⟨_, _, h1, h2⟩
set_option maxRecDepth 100000 in
set_option maxHeartbeats 8000000 in
theorem emTells_core {F : Nat → Prop} (b : Int) (xs : List Xp) (A : Option Addr) (n c : Nat) (lba m gv kd : Int) (w : World) (h : Rs extE F w A n c xs) (hlb : lba ≤ 9223372036854775807) (hla : ∀ x ∈ xs, x.la ≤ 9223372036854775807) :
    Calls Try.prog 5 #[.int .i64 b, .slice A n c, .int .i64 lba, .int .i64 m, .int .i64 gv, .int .i64 kd] w (AwakePost w) := by
  have bb := Below.refl w.heap.size w
  go_enter Try.func5, Try.ntmps5
  go_wp2_with fail
  have hC := awake8_any w
  refine hC.mono ?_
  clear hC
  rintro e w1 ⟨rfl, b1⟩
  replace h := h.below b1
  replace bb := bb.trans (b1.mono bb.size)
  go_wp2_with fail
  refine (few_any xs A n c w1 h).mono ?_
  rintro e w2 ⟨fr, rfl, hfew, rfl⟩
  cases fr
  · go_wp2
    go_ret
    exact ⟨rfl, bb⟩
  have hn70 := (hfew rfl).1
  clear hfew
  obtain ⟨y1, e1, r1, r2⟩ := both_range (F := F) b xs A n c lba m hlb hla (by omega)
  obtain ⟨y2, e2, s1, s2⟩ := both_since (F := F) b xs A n c gv hla (by omega)
  have hC0 := r1 w1 h
  clear r1
  go_wp2_with fail
  have hC := hC0
  refine hC.mono ?_
  clear hC
  rintro e w3 ⟨L3, n3, d3, hm3, rfl, S3, b3⟩
  replace h := h.below b3
  replace bb := bb.trans (b3.mono bb.size)
  clear hC0
  have hC0 := r2 w3 h
  clear r2
  go_wp2_with fail
  have hC := hC0
  refine hC.mono ?_
  clear hC
  rintro e w4 ⟨L4, n4, d4, hm4, rfl, S4, b4⟩
  replace h := h.below b4
  replace S3 := S3.below b4
  replace bb := bb.trans (b4.mono bb.size)
  clear hC0
  obtain rfl : n3 = n4 := hm3.out.symm.trans hm4.out
  have hC0 := s1 w4 h
  clear s1
  go_wp2_with fail
  have hC := hC0
  refine hC.mono ?_
  clear hC
  rintro e w5 ⟨L5, n5, d5, hm5, rfl, S5, b5⟩
  replace h := h.below b5
  replace S3 := S3.below b5
  replace S4 := S4.below b5
  replace bb := bb.trans (b5.mono bb.size)
  clear hC0
  have hC0 := s2 w5 h
  clear s2
  go_wp2_with fail
  have hC := hC0
  refine hC.mono ?_
  clear hC
  rintro e w6 ⟨L6, n6, d6, hm6, rfl, S6, b6⟩
  replace h := h.below b6
  replace S3 := S3.below b6
  replace S4 := S4.below b6
  replace S5 := S5.below b6
  replace bb := bb.trans (b6.mono bb.size)
  clear hC0
  obtain rfl : n5 = n6 := hm5.out.symm.trans hm6.out
  go_wp2_with fail
  have hC := fAll_any y1 L3 n3 d3 L4 d4 w6 S3 S4
  refine hC.mono ?_
  clear hC
  rintro e x1 ⟨rfl, c1⟩
  replace h := h.below c1
  replace S3 := S3.below c1
  replace S4 := S4.below c1
  replace S5 := S5.below c1
  replace S6 := S6.below c1
  replace bb := bb.trans (c1.mono bb.size)
  go_wp2_with fail
  have hC := fAll_any y2 L5 n5 d5 L6 d6 x1 S5 S6
  refine hC.mono ?_
  clear hC
  rintro e x2 ⟨rfl, c2⟩
  replace h := h.below c2
  replace S3 := S3.below c2
  replace S4 := S4.below c2
  replace S5 := S5.below c2
  replace S6 := S6.below c2
  replace bb := bb.trans (c2.mono bb.size)
  go_wp2_with fail
  have hC := mMany_any xs A n c kd x2 h hla (by omega)
  refine hC.mono ?_
  clear hC
  rintro e x3 ⟨rfl, c3⟩
  replace h := h.below c3
  replace S3 := S3.below c3
  replace S4 := S4.below c3
  replace S5 := S5.below c3
  replace S6 := S6.below c3
  replace bb := bb.trans (c3.mono bb.size)
  go_wp2_with fail
  have hC := rmMany_any xs A n c kd x3 h (by omega)
  refine hC.mono ?_
  clear hC
  rintro e x4 ⟨rfl, c4⟩
  replace h := h.below c4
  replace S3 := S3.below c4
  replace S4 := S4.below c4
  replace S5 := S5.below c4
  replace S6 := S6.below c4
  replace bb := bb.trans (c4.mono bb.size)
  go_wp2
  go_ret
  exact ⟨rfl, bb⟩
theorem ExtmapTells_walk (a0 : Int) (a1 : Option Addr) (len1 cap1 : Nat) (a2 : Int) (a3 : Int) (a4 : Int) (a5 : Int) (w : World) (w0 : (Lit.int .i64 a0).wf = true) (w1 : IsSts [.num .i64, .num .i64, .num .i64, .num .i64, .row .u8] w a1 len1 cap1) (w2 : (Lit.int .i64 a2).wf = true) (w3 : (Lit.int .i64 a3).wf = true) (w4 : (Lit.int .i64 a4).wf = true) (w5 : (Lit.int .i64 a5).wf = true) :
    Calls Try.prog 5 #[.int .i64 a0, .slice a1 len1 cap1, .int .i64 a2, .int .i64 a3, .int .i64 a4, .int .i64 a5] w (AwakePost w) := by
  obtain ⟨xs, hla, h⟩ := exts_of_sts w1
  exact emTells_core a0 xs a1 len1 cap1 a2 a3 a4 a5 w h (ext_wf w2) hla
end Go.Proofs.Ytefodkkkbjgbiaa
