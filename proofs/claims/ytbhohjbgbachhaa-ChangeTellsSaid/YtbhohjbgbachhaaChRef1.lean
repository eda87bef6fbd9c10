/-
  Contracts of the document's List and Check of changes (written by gen_chref1.py).
-/
import Derived.Test.YtbhohjbgbachhaaChRef1A
import Derived.Test.YtbhohjbgbachhaaChRef1B
import Derived.Test.YtbhohjbgbachhaaChRef1C
import Derived.Test.YtbhohjbgbachhaaChRef1D
import Derived.Test.YtbhohjbgbachhaaRef7a
import Derived.Deep.Cut
import Derived.Deep.CutRange
namespace Go.Proofs.Ytbhohjbgbachhaa
open Go.RowKit Go.Wag
set_option linter.unusedVariables false
set_option linter.unusedSimpArgs false
set_option maxRecDepth 20000
set_option maxHeartbeats 4000000 in
theorem gCheck_any {F : Nat → Prop} (k la n i : Int) (Ad : Option Addr) (md cd : Nat) (Al : Option Addr) (ml cl : Nat) (xs : List Xp) (w : World) (h : Rs extE F w Al ml cl xs) (hla0 : la ≤ 9223372036854775807) (hla : ∀ x ∈ xs, x.la ≤ 9223372036854775807) :
    Calls Try.prog 30 #[.agg #[.int .i64 k, .int .i64 la, .int .i64 n, .int .i64 i, .slice Ad md cd, .slice Al ml cl]] w fun e w' => e = .returned (.bool (cchk k la n i md xs)) ∧ Below w.heap.size w w' := by
  by_cases k1 : k = 1
  · exact gCheck_A k la n i Ad md cd Al ml cl xs w (.inl k1) h hla0 hla
  by_cases k2 : k = 2
  · exact gCheck_A k la n i Ad md cd Al ml cl xs w (.inr k2) h hla0 hla
  by_cases k3 : k = 3
  · exact gCheck_B k la n i Ad md cd Al ml cl xs w (.inl k3) h hla0 hla
  by_cases k4 : k = 4
  · exact gCheck_B k la n i Ad md cd Al ml cl xs w (.inr k4) h hla0 hla
  by_cases k5 : k = 5
  · exact gCheck_C k la n i Ad md cd Al ml cl xs w (.inl k5) h hla0 hla
  by_cases k6 : k = 6
  · exact gCheck_C k la n i Ad md cd Al ml cl xs w (.inr k6) h hla0 hla
  by_cases k7 : k = 7
  · exact gCheck_D k la n i Ad md cd Al ml cl xs w (.inl k7) h hla0 hla
  by_cases k8 : k = 8
  · exact gCheck_D k la n i Ad md cd Al ml cl xs w (.inr k8) h hla0 hla
  have hk : ¬ (1 ≤ k ∧ k ≤ 8) := by omega
  clear k1 k2 k3 k4 k5 k6 k7 k8
  have hl := h.len
  have hcap := h.cap
  have hbig := h.big
  have X := Blk.new w #[.int .i64 k, .int .i64 la, .int .i64 n, .int .i64 i, .slice Ad md cd, .slice Al ml cl] 37
  have bb := (Below.refl w.heap.size w).alloc (Nat.le_refl _) (.cells #[.int .i64 k, .int .i64 la, .int .i64 n, .int .i64 i, .slice Ad md cd, .slice Al ml cl] 37)
  have h' := h.alloc (.cells #[.int .i64 k, .int .i64 la, .int .i64 n, .int .i64 i, .slice Ad md cd, .slice Al ml cl] 37)
  have hC := fun W hh => gList_any (F := F) xs Al ml cl W hh hla
  clear h hla
  go_enter Try.func30, Try.ntmps30
  go_upto_region 1 with (fail)
  generalize w.alloc (.cells #[.int .i64 k, .int .i64 la, .int .i64 n, .int .i64 i, .slice Ad md cd, .slice Al ml cl] 37) = w1 at *
  obtain ⟨kx, hkx⟩ : ∃ x, w.heap.size = x := ⟨_, rfl⟩
  simp only [hkx] at X ⊢
  obtain ⟨B, hB⟩ : ∃ b, decide (0 ≤ la ∧ 1 ≤ n ∧ la + n ≤ 64) = b := ⟨_, rfl⟩
  obtain ⟨I, hI⟩ : ∃ b, decide (1 ≤ i ∧ i ≤ 2147483647) = b := ⟨_, rfl⟩
  replace hB := Lib.hid hB
  replace hI := Lib.hid hI
  go_cut [3] from 7 (fun s wc => s = .bool B ∧ wc = w1)
  case first =>
    obtain ⟨x0, x1, x2, x3, x4, x5, _⟩ := X.six
    have hw : la ≥ 0 → wrap64 (64 - la) = 64 - la := fun _ => by unfold wrap64; omega
    by_cases a1 : la ≥ 0
    · have hw2 := hw a1
      clear hw
      go_wp2
      all_goals (go_meet; case rel => exact ⟨by refine congrArg Value.bool ?_; rw [← hB.out, Bool.eq_iff_iff]; simp <;> omega, rfl⟩)
    · clear hw
      go_wp2
      go_meet
      case rel => exact ⟨by refine congrArg Value.bool ?_; rw [← hB.out, Bool.eq_iff_iff]; simp <;> omega, rfl⟩
  case rest =>
  obtain ⟨rfl, rfl⟩ := hcut
  go_upto_region 2 with (fail)
  go_cut [4] from 7 (fun s wc2 => s = .bool I ∧ wc2 = wc)
  case first =>
    obtain ⟨x0, x1, x2, x3, x4, x5, _⟩ := X.six
    go_wp2
    all_goals (go_meet; case rel => exact ⟨by refine congrArg Value.bool ?_; rw [← hI.out, Bool.eq_iff_iff]; simp <;> omega, rfl⟩)
  case rest =>
  obtain ⟨rfl, rfl⟩ := hcut
  obtain ⟨x0, x1, x2, x3, x4, x5, _⟩ := X.six
  go_wp2_with fail
  refine (hC _ h').mono ?_
  clear hC x0 x1 x2 x3 x4 x5
  rintro e w2 ⟨rfl, b2⟩
  replace X := X.under b2
  replace bb := bb.trans (b2.mono bb.size)
  clear h' b2
  obtain ⟨x0, x1, x2, x3, x4, x5, _⟩ := X.six
  obtain ⟨Lb, hLb⟩ : ∃ b, clist 0 xs = b := ⟨_, rfl⟩
  rw [hLb]
  have hw3 : 1 ≤ n ∧ n ≤ 64 → wrap64 (32 * n) = 32 * n := fun _ => by unfold wrap64; omega
  obtain ⟨W, hW⟩ : ∃ x, wrap64 (32 * n) = x := ⟨_, rfl⟩
  replace hLb := Lib.hid hLb
  rw [hW] at hw3
  replace hw3 := Lib.hid hw3
  have e1 : (k == 1) = false := by simp; omega
  have e2 : (k == 2) = false := by simp; omega
  have e3 : (k == 3) = false := by simp; omega
  have e4 : (k == 4) = false := by simp; omega
  have e5 : (k == 5) = false := by simp; omega
  have e6 : (k == 6) = false := by simp; omega
  have e7 : (k == 7) = false := by simp; omega
  have e8 : (k == 8) = false := by simp; omega
  have hf : cchk k la n i md xs = false := by rw [cchk, decide_eq_false_iff_not]; omega
  replace hf := Lib.hid hf
  replace hk := Lib.hid hk
  go_wp2
  go_ret
  exact ⟨ret_bool hf.out.symm, hkx ▸ bb⟩
end Go.Proofs.Ytbhohjbgbachhaa
