/-
  Contracts of the document's List and Check of changes (written by gen_chref1.py).
-/
import Derived.Test.YtbhohjbgbachhaaChRef0
import Derived.Test.YtbhohjbgbachhaaRef7a
import Derived.Deep.Cut
import Derived.Deep.CutRange
namespace Go.Proofs.Ytbhohjbgbachhaa
open Go.RowKit Go.Wag
set_option linter.unusedVariables false
set_option linter.unusedSimpArgs false
set_option maxRecDepth 20000
set_option maxHeartbeats 4000000 in
theorem gCheck_A {F : Nat → Prop} (k la n i : Int) (Ad : Option Addr) (md cd : Nat) (Al : Option Addr) (ml cl : Nat) (xs : List Xp) (w : World) (hk : k = 1 ∨ k = 2) (h : Rs extE F w Al ml cl xs) (hla0 : la ≤ 9223372036854775807) (hla : ∀ x ∈ xs, x.la ≤ 9223372036854775807) :
    Calls Try.prog 30 #[.agg #[.int .i64 k, .int .i64 la, .int .i64 n, .int .i64 i, .slice Ad md cd, .slice Al ml cl]] w fun e w' => e = .returned (.bool (cchk k la n i md xs)) ∧ Below w.heap.size w w' := by
  have hl := h.len
  have hcap := h.cap
  have hbig := h.big
  have X := Blk.new w #[.int .i64 k, .int .i64 la, .int .i64 n, .int .i64 i, .slice Ad md cd, .slice Al ml cl] 37
  have bb := (Below.refl w.heap.size w).alloc (Nat.le_refl _) (.cells #[.int .i64 k, .int .i64 la, .int .i64 n, .int .i64 i, .slice Ad md cd, .slice Al ml cl] 37)
  have h' := h.alloc (.cells #[.int .i64 k, .int .i64 la, .int .i64 n, .int .i64 i, .slice Ad md cd, .slice Al ml cl] 37)
  have hC := fun W hh => gList_any (F := F) xs Al ml cl W hh hla
  clear h hla
  go_enter Try.func30, Try.ntmps30
  go_upto_region 1 with (fail)
  generalize w.alloc (.cells #[.int .i64 k, .int .i64 la, .int .i64 n, .int .i64 i, .slice Ad md cd, .slice Al ml cl] 37) = w1 at *
  obtain ⟨kx, hkx⟩ : ∃ x, w.heap.size = x := ⟨_, rfl⟩
  simp only [hkx] at X ⊢
  obtain ⟨B, hB⟩ : ∃ b, decide (0 ≤ la ∧ 1 ≤ n ∧ la + n ≤ 64) = b := ⟨_, rfl⟩
  obtain ⟨I, hI⟩ : ∃ b, decide (1 ≤ i ∧ i ≤ 2147483647) = b := ⟨_, rfl⟩
  replace hB := Lib.hid hB
  replace hI := Lib.hid hI
  go_cut [3] from 7 (fun s wc => s = .bool B ∧ wc = w1)
  case first =>
    obtain ⟨x0, x1, x2, x3, x4, x5, _⟩ := X.six
    have hw : la ≥ 0 → wrap64 (64 - la) = 64 - la := fun _ => by unfold wrap64; omega
    by_cases a1 : la ≥ 0
    · have hw2 := hw a1
      clear hw
      go_wp2
      all_goals (go_meet; case rel => exact ⟨by refine congrArg Value.bool ?_; rw [← hB.out, Bool.eq_iff_iff]; simp <;> omega, rfl⟩)
    · clear hw
      go_wp2
      go_meet
      case rel => exact ⟨by refine congrArg Value.bool ?_; rw [← hB.out, Bool.eq_iff_iff]; simp <;> omega, rfl⟩
  case rest =>
  obtain ⟨rfl, rfl⟩ := hcut
  go_upto_region 2 with (fail)
  go_cut [4] from 7 (fun s wc2 => s = .bool I ∧ wc2 = wc)
  case first =>
    obtain ⟨x0, x1, x2, x3, x4, x5, _⟩ := X.six
    go_wp2
    all_goals (go_meet; case rel => exact ⟨by refine congrArg Value.bool ?_; rw [← hI.out, Bool.eq_iff_iff]; simp <;> omega, rfl⟩)
  case rest =>
  obtain ⟨rfl, rfl⟩ := hcut
  obtain ⟨x0, x1, x2, x3, x4, x5, _⟩ := X.six
  go_wp2_with fail
  refine (hC _ h').mono ?_
  clear hC x0 x1 x2 x3 x4 x5
  rintro e w2 ⟨rfl, b2⟩
  replace X := X.under b2
  replace bb := bb.trans (b2.mono bb.size)
  clear h' b2
  obtain ⟨x0, x1, x2, x3, x4, x5, _⟩ := X.six
  obtain ⟨Lb, hLb⟩ : ∃ b, clist 0 xs = b := ⟨_, rfl⟩
  rw [hLb]
  have hw3 : 1 ≤ n ∧ n ≤ 64 → wrap64 (32 * n) = 32 * n := fun _ => by unfold wrap64; omega
  obtain ⟨W, hW⟩ : ∃ x, wrap64 (32 * n) = x := ⟨_, rfl⟩
  replace hLb := Lib.hid hLb
  rw [hW] at hw3
  replace hw3 := Lib.hid hw3
  rcases hk with rfl | rfl
  · cases B
    all_goals go_wp2
    all_goals go_ret
    all_goals exact ⟨ret_bool (by have hB2 := hB.out; have hI2 := hI.out; have hL2 := hLb.out; have hw4 := hw3.out; (try simp only [decide_eq_true_eq, decide_eq_false_iff_not] at hB2 hI2); rw [Bool.eq_iff_iff]; simp [cchk, hl, hL2] <;> omega), hkx ▸ bb⟩
  · cases B
    all_goals go_wp2
    all_goals go_ret
    all_goals exact ⟨ret_bool (by have hB2 := hB.out; have hI2 := hI.out; have hL2 := hLb.out; have hw4 := hw3.out; (try simp only [decide_eq_true_eq, decide_eq_false_iff_not] at hB2 hI2); rw [Bool.eq_iff_iff]; simp [cchk, hl, hL2] <;> omega), hkx ▸ bb⟩
end Go.Proofs.Ytbhohjbgbachhaa
