/-
  Contract of change.Check (written by gen_ch2.py).
-/
import Derived.Test.YtbhohjbgbachhaaCh1
import Derived.Test.YtbhohjbgbachhaaStrs2
import Derived.Deep.Cut
import Derived.Deep.RegionHeld3
namespace Go.Proofs.Ytbhohjbgbachhaa
open Go.RowKit Go.Wag
set_option linter.unusedVariables false
set_option linter.unusedSimpArgs false
set_option maxRecDepth 20000
theorem rule_at {F : Nat → Prop} (k la n i : Int) (Ad : Option Addr) (md cd : Nat) (Al : Option Addr) (ml cl : Nat) (xs : List Xp) (w : World) (h : Rs extE F w Al ml cl xs) (hla0 : la ≤ 9223372036854775807) (hla : ∀ x ∈ xs, x.la ≤ 9223372036854775807) (h1 : 1 ≤ k) (h8 : k ≤ 8) :
    ∃ (f0 f1 f2 f3 : FuncId) (b0 b1 b2 b3 : Bool), (∀ W : World, (Instr.index 88 (.agg rulesA) (.int .i64 k)).run Try.prog W = .ok (.agg #[.func (.func f0) #[] #[], .func (.func f1) #[] #[], .func (.func f2) #[] #[], .func (.func f3) #[] #[]]) W) ∧
      (∀ W : World, Below w.heap.size w W → Calls Try.prog f0 #[.agg #[.int .i64 k, .int .i64 la, .int .i64 n, .int .i64 i, .slice Ad md cd, .slice Al ml cl]] W fun e w' => e = .returned (.bool b0) ∧ Below W.heap.size W w') ∧ (∀ W : World, Below w.heap.size w W → Calls Try.prog f1 #[.agg #[.int .i64 k, .int .i64 la, .int .i64 n, .int .i64 i, .slice Ad md cd, .slice Al ml cl]] W fun e w' => e = .returned (.bool b1) ∧ Below W.heap.size W w') ∧ (∀ W : World, Below w.heap.size w W → Calls Try.prog f2 #[.agg #[.int .i64 k, .int .i64 la, .int .i64 n, .int .i64 i, .slice Ad md cd, .slice Al ml cl]] W fun e w' => e = .returned (.bool b2) ∧ Below W.heap.size W w') ∧ (∀ W : World, Below w.heap.size w W → Calls Try.prog f3 #[.agg #[.int .i64 k, .int .i64 la, .int .i64 n, .int .i64 i, .slice Ad md cd, .slice Al ml cl]] W fun e w' => e = .returned (.bool b3) ∧ Below W.heap.size W w') ∧ (∀ (ag : Array Value) (W : World), (callFunc f0 ag).run Try.prog W = .ok (.enter f0 ag) W) ∧ (∀ (ag : Array Value) (W : World), (callFunc f1 ag).run Try.prog W = .ok (.enter f1 ag) W) ∧ (∀ (ag : Array Value) (W : World), (callFunc f2 ag).run Try.prog W = .ok (.enter f2 ag) W) ∧ (∀ (ag : Array Value) (W : World), (callFunc f3 ag).run Try.prog W = .ok (.enter f3 ag) W) ∧ cchk k la n i md xs = (b0 && (b1 && (b2 && b3))) := by
  have hl := h.len
  have hk : k = 1 ∨ k = 2 ∨ k = 3 ∨ k = 4 ∨ k = 5 ∨ k = 6 ∨ k = 7 ∨ k = 8 := by omega
  rcases hk with rfl | rfl | rfl | rfl | rfl | rfl | rfl | rfl
  · refine ⟨82, 83, 84, 85, _, _, _, _, fun W => by kernel_rfl, fun W hW => chBlk_any _ _ _ _ _ _ _ _ _ _ W hla0, fun W hW => chNoId_any _ _ _ _ _ _ _ _ _ _ W, fun W hW => chTheirs_any _ _ _ _ _ _ _ _ _ _ W, fun W hW => chNoList_any _ _ _ _ _ _ _ _ _ _ W, fun ag W => by kernel_rfl, fun ag W => by kernel_rfl, fun ag W => by kernel_rfl, fun ag W => by kernel_rfl, ?_⟩
    have e2 : (1 ≤ n ∧ n ≤ 64) → wrap64 (n * 32) = 32 * n := fun hn => by unfold wrap64; omega
    by_cases hn : 1 ≤ n ∧ n ≤ 64
    · rw [e2 hn, Bool.eq_iff_iff]
      simp [cchk, hl]
      omega
    · have q1 : decide (0 ≤ la ∧ 1 ≤ n ∧ la + n ≤ 64) = false := decide_eq_false (by omega)
      rw [q1, Bool.false_and, cchk, decide_eq_false_iff_not]
      omega
  · refine ⟨82, 83, 86, 85, _, _, _, _, fun W => by kernel_rfl, fun W hW => chBlk_any _ _ _ _ _ _ _ _ _ _ W hla0, fun W hW => chNoId_any _ _ _ _ _ _ _ _ _ _ W, fun W hW => chNoData_any _ _ _ _ _ _ _ _ _ _ W, fun W hW => chNoList_any _ _ _ _ _ _ _ _ _ _ W, fun ag W => by kernel_rfl, fun ag W => by kernel_rfl, fun ag W => by kernel_rfl, fun ag W => by kernel_rfl, ?_⟩
    rw [Bool.eq_iff_iff]
    simp [cchk, hl]
    try omega
  · refine ⟨82, 83, 86, 85, _, _, _, _, fun W => by kernel_rfl, fun W hW => chBlk_any _ _ _ _ _ _ _ _ _ _ W hla0, fun W hW => chNoId_any _ _ _ _ _ _ _ _ _ _ W, fun W hW => chNoData_any _ _ _ _ _ _ _ _ _ _ W, fun W hW => chNoList_any _ _ _ _ _ _ _ _ _ _ W, fun ag W => by kernel_rfl, fun ag W => by kernel_rfl, fun ag W => by kernel_rfl, fun ag W => by kernel_rfl, ?_⟩
    rw [Bool.eq_iff_iff]
    simp [cchk, hl]
    try omega
  · refine ⟨87, 88, 86, 85, _, _, _, _, fun W => by kernel_rfl, fun W hW => chNoBlk_any _ _ _ _ _ _ _ _ _ _ W, fun W hW => chId_any _ _ _ _ _ _ _ _ _ _ W, fun W hW => chNoData_any _ _ _ _ _ _ _ _ _ _ W, fun W hW => chNoList_any _ _ _ _ _ _ _ _ _ _ W, fun ag W => by kernel_rfl, fun ag W => by kernel_rfl, fun ag W => by kernel_rfl, fun ag W => by kernel_rfl, ?_⟩
    rw [Bool.eq_iff_iff]
    simp [cchk, hl]
    try omega
  · refine ⟨87, 88, 86, 85, _, _, _, _, fun W => by kernel_rfl, fun W hW => chNoBlk_any _ _ _ _ _ _ _ _ _ _ W, fun W hW => chId_any _ _ _ _ _ _ _ _ _ _ W, fun W hW => chNoData_any _ _ _ _ _ _ _ _ _ _ W, fun W hW => chNoList_any _ _ _ _ _ _ _ _ _ _ W, fun ag W => by kernel_rfl, fun ag W => by kernel_rfl, fun ag W => by kernel_rfl, fun ag W => by kernel_rfl, ?_⟩
    rw [Bool.eq_iff_iff]
    simp [cchk, hl]
    try omega
  · refine ⟨87, 83, 89, 85, _, _, _, _, fun W => by kernel_rfl, fun W hW => chNoBlk_any _ _ _ _ _ _ _ _ _ _ W, fun W hW => chNoId_any _ _ _ _ _ _ _ _ _ _ W, fun W hW => chPart_any _ _ _ _ _ _ _ _ _ _ W, fun W hW => chNoList_any _ _ _ _ _ _ _ _ _ _ W, fun ag W => by kernel_rfl, fun ag W => by kernel_rfl, fun ag W => by kernel_rfl, fun ag W => by kernel_rfl, ?_⟩
    rw [Bool.eq_iff_iff]
    simp [cchk, hl]
    try omega
  · refine ⟨87, 83, 86, 85, _, _, _, _, fun W => by kernel_rfl, fun W hW => chNoBlk_any _ _ _ _ _ _ _ _ _ _ W, fun W hW => chNoId_any _ _ _ _ _ _ _ _ _ _ W, fun W hW => chNoData_any _ _ _ _ _ _ _ _ _ _ W, fun W hW => chNoList_any _ _ _ _ _ _ _ _ _ _ W, fun ag W => by kernel_rfl, fun ag W => by kernel_rfl, fun ag W => by kernel_rfl, fun ag W => by kernel_rfl, ?_⟩
    rw [Bool.eq_iff_iff]
    simp [cchk, hl]
    try omega
  · refine ⟨87, 88, 86, 90, _, _, _, _, fun W => by kernel_rfl, fun W hW => chNoBlk_any _ _ _ _ _ _ _ _ _ _ W, fun W hW => chId_any _ _ _ _ _ _ _ _ _ _ W, fun W hW => chNoData_any _ _ _ _ _ _ _ _ _ _ W, fun W hW => chList_any _ _ _ _ _ _ _ _ _ _ xs W (h.below hW) hla, fun ag W => by kernel_rfl, fun ag W => by kernel_rfl, fun ag W => by kernel_rfl, fun ag W => by kernel_rfl, ?_⟩
    rw [Bool.eq_iff_iff]
    simp [cchk, hl]
    simp only [and_assoc]
set_option maxHeartbeats 4000000 in
theorem chCheck_any {F : Nat → Prop} (k la n i : Int) (Ad : Option Addr) (md cd : Nat) (Al : Option Addr) (ml cl : Nat) (xs : List Xp) (w : World) (h : Rs extE F w Al ml cl xs) (hla0 : la ≤ 9223372036854775807) (hla : ∀ x ∈ xs, x.la ≤ 9223372036854775807) :
    Calls Try.prog 29 #[.agg #[.int .i64 k, .int .i64 la, .int .i64 n, .int .i64 i, .slice Ad md cd, .slice Al ml cl]] w fun e w' => e = .returned (.bool (cchk k la n i md xs)) ∧ Below w.heap.size w w' := by
  have hcap := h.cap
  have hbig := h.big
  by_cases h1 : k < 1
  · have hf : cchk k la n i md xs = false := by rw [cchk, decide_eq_false_iff_not]; omega
    rw [hf]
    go_enter Try.func29, Try.ntmps29
    go_wp2_with fail
    go_ret
    exact ⟨rfl, (Below.refl _ _).alloc (Nat.le_refl _) _⟩
  by_cases h8 : k > 8
  · have hf : cchk k la n i md xs = false := by rw [cchk, decide_eq_false_iff_not]; omega
    rw [hf]
    go_enter Try.func29, Try.ntmps29
    go_wp2_with fail
    go_ret
    exact ⟨rfl, (Below.refl _ _).alloc (Nat.le_refl _) _⟩
  obtain ⟨f0, f1, f2, f3, b0, b1, b2, b3, hidx, c0, c1, c2, c3, k0, k1, k2, k3, hck⟩ := rule_at k la n i Ad md cd Al ml cl xs w h hla0 hla (by omega) (by omega)
  have hfld : ∀ W : World, (Instr.field 87 (.agg #[.func (.func f0) #[] #[], .func (.func f1) #[] #[], .func (.func f2) #[] #[], .func (.func f3) #[] #[]]) 0).run Try.prog W = .ok (.agg #[.func (.func f0) #[] #[], .func (.func f1) #[] #[], .func (.func f2) #[] #[], .func (.func f3) #[] #[]]) W := fun W => by kernel_rfl
  rw [hck]
  clear hck hla hla0
  replace c0 := Lib.hid c0
  replace c1 := Lib.hid c1
  replace c2 := Lib.hid c2
  replace c3 := Lib.hid c3
  have X := Blk.new w #[.int .i64 k, .int .i64 la, .int .i64 n, .int .i64 i, .slice Ad md cd, .slice Al ml cl] 37
  have bb := (Below.refl w.heap.size w).alloc (Nat.le_refl _) (.cells #[.int .i64 k, .int .i64 la, .int .i64 n, .int .i64 i, .slice Ad md cd, .slice Al ml cl] 37)
  go_enter Try.func29, Try.ntmps29
  go_wp2_with fail
  generalize hww : w.alloc (.cells #[.int .i64 k, .int .i64 la, .int .i64 n, .int .i64 i, .slice Ad md cd, .slice Al ml cl] 37) = w1 at *
  obtain ⟨kx, hkx⟩ : ∃ x, w.heap.size = x := ⟨_, rfl⟩
  have hkb := bb.size
  simp only [hkx] at X ⊢
  clear hww
  refine wp_region_held_drew (S := fun w' => Below w1.heap.size w1 w') (by kernel_rfl) (Below.refl _ _).drew (fun hHeld => ?_)
  try dsimp only at hHeld
  generalize w1.drew = wd at *
  try simp only [Act.put, List.setIfInBounds_toArray, List.set_cons_zero, List.set_cons_succ]
  refine wpAnyH_take (i := 1) (v := ?_) (by simp only [List.getElem?_toArray, List.getElem?_cons_succ, List.getElem?_cons_zero]; rfl) (by kernel_rfl) (by kernel_rfl) (by kernel_rfl) (by intro _ _ _ h; exact h) (Or.inl ⟨by rfl, ?_⟩) hHeld ?_
  rotate_left 1
  · intro wq hSw
    try dsimp only at hSw
    go_simp
    try (with_reducible rfl)
  try simp only [Act.put, List.setIfInBounds_toArray, List.set_cons_zero, List.set_cons_succ]
  refine wpAnyH_take (i := 2) (v := ?_) (by simp only [List.getElem?_toArray, List.getElem?_cons_succ, List.getElem?_cons_zero]; rfl) (by kernel_rfl) (by kernel_rfl) (by kernel_rfl) (by intro _ _ _ h; exact h) (Or.inl ⟨by rfl, ?_⟩) hHeld ?_
  rotate_left 1
  · intro wq hSw
    try dsimp only at hSw
    obtain ⟨x0, x1, x2, x3, x4, x5, _⟩ := (X.under hSw).six
    go_simp
    try (with_reducible rfl)
  try simp only [Act.put, List.setIfInBounds_toArray, List.set_cons_zero, List.set_cons_succ]
  refine wpAnyH_take (i := 5) (v := ?_) (by simp only [List.getElem?_toArray, List.getElem?_cons_succ, List.getElem?_cons_zero]; rfl) (by kernel_rfl) (by kernel_rfl) (by kernel_rfl) (by intro _ _ _ h; exact h) (Or.inl ⟨by rfl, ?_⟩) hHeld ?_
  rotate_left 1
  · intro wq hSw
    try dsimp only at hSw
    go_simp
    try (with_reducible rfl)
  try simp only [Act.put, List.setIfInBounds_toArray, List.set_cons_zero, List.set_cons_succ]
  refine wpAnyH_ready (rs := [0]) (by kernel_rfl) (by simp) ?_
  refine AllReadyH.cons (by simp only [List.getElem?_toArray, List.getElem?_cons_zero]; rfl) (fun K hK => ?_) AllReadyH.nil
  go_simp
  refine (chRules_any wd).mono ?_
  rintro e w2 ⟨rfl, b2⟩
  have bN := hHeld.trans (b2.mono hHeld.size)
  go_wp2_with fail
  refine hK.out _ _ (bN) (fun hHeld => ?_)
  clear hK K
  try dsimp only at hHeld
  clear b2 bN
  try simp only [Act.put, List.setIfInBounds_toArray, List.set_cons_zero, List.set_cons_succ]
  refine wpAnyH_take (i := 3) (v := .agg #[.func (.func f0) #[] #[], .func (.func f1) #[] #[], .func (.func f2) #[] #[], .func (.func f3) #[] #[]]) (by simp only [List.getElem?_toArray, List.getElem?_cons_succ, List.getElem?_cons_zero]; rfl) (by kernel_rfl) (by kernel_rfl) (by kernel_rfl) (by intro _ _ _ h; exact h) (Or.inl ⟨by rfl, ?_⟩) hHeld ?_
  · intro wq hSw
    try dsimp only at hSw
    unfold execOp
    go_simp
    try exact hidx _
  try simp only [Act.put, List.setIfInBounds_toArray, List.set_cons_zero, List.set_cons_succ]
  refine wpAnyH_take (i := 4) (v := ?_) (by simp only [List.getElem?_toArray, List.getElem?_cons_succ, List.getElem?_cons_zero]; rfl) (by kernel_rfl) (by kernel_rfl) (by kernel_rfl) (by intro _ _ _ h; exact h) (Or.inl ⟨by rfl, ?_⟩) hHeld ?_
  rotate_left 1
  · intro wq hSw
    try dsimp only at hSw
    go_simp
    try (with_reducible rfl)
  try simp only [Act.put, List.setIfInBounds_toArray, List.set_cons_zero, List.set_cons_succ]
  refine wpAnyH_done (by kernel_rfl) ?_ _
  replace bb := bb.trans (hHeld.mono hkb)
  have X2 := X.under hHeld
  clear X hHeld hidx hfld
  go_wp2_with fail
  go_loopg [18] 4 (fun g j wr => ∃ q : Nat, q + g = 4 ∧ j = .int .i64 (q : Int) ∧ Hid ((1 ≤ q → b0 = true) ∧ (2 ≤ q → b1 = true) ∧ (3 ≤ q → b2 = true) ∧ (4 ≤ q → b3 = true)) ∧ Blk wr kx #[.int .i64 k, .int .i64 la, .int .i64 n, .int .i64 i, .slice Ad md cd, .slice Al ml cl] 37 ∧ Below w.heap.size w wr)
  case atStart => exact ⟨0, rfl, rfl, ⟨fun h => absurd h (by omega), fun h => absurd h (by omega), fun h => absurd h (by omega), fun h => absurd h (by omega)⟩, X2, bb⟩
  case round =>
    clear X2 bb
    obtain ⟨q, hq, rfl, hb, X, bb⟩ := hrel
    have hbs := bb.size
    obtain rfl | rfl | rfl | rfl | rfl : q = 0 ∨ q = 1 ∨ q = 2 ∨ q = 3 ∨ q = 4 := by omega
    · obtain rfl : gk = 4 := by omega
      obtain ⟨x0, x1, x2, x3, x4, x5, _⟩ := X.six
      have hix : ∀ W : World, (Instr.index 85 (.agg #[.func (.func f0) #[] #[], .func (.func f1) #[] #[], .func (.func f2) #[] #[], .func (.func f3) #[] #[]]) (.int .i64 0)).run Try.prog W = .ok (.func (.func f0) #[] #[]) W := fun W => by kernel_rfl
      go_wp2_with fail
      refine (c0.out wr bb).mono ?_
      clear x0 x1 x2 x3 x4 x5 hix
      rintro e w3 ⟨rfl, bw3⟩
      replace X := X.under bw3
      replace bb := bb.trans (bw3.mono hbs)
      cases b0
      · go_wp2
        go_ret
        exact ⟨ret_bool (by first | rfl | simp [*]), hkx ▸ bb⟩
      · go_wp2
        go_roundg 3
        case measure => omega
        case rel => exact ⟨1, rfl, rfl, ⟨fun _ => by first | rfl | trivial, fun h => absurd h (by omega), fun h => absurd h (by omega), fun h => absurd h (by omega)⟩, X, bb⟩
    · obtain rfl : gk = 3 := by omega
      obtain ⟨x0, x1, x2, x3, x4, x5, _⟩ := X.six
      have hix : ∀ W : World, (Instr.index 85 (.agg #[.func (.func f0) #[] #[], .func (.func f1) #[] #[], .func (.func f2) #[] #[], .func (.func f3) #[] #[]]) (.int .i64 1)).run Try.prog W = .ok (.func (.func f1) #[] #[]) W := fun W => by kernel_rfl
      go_wp2_with fail
      refine (c1.out wr bb).mono ?_
      clear x0 x1 x2 x3 x4 x5 hix
      rintro e w3 ⟨rfl, bw3⟩
      replace X := X.under bw3
      replace bb := bb.trans (bw3.mono hbs)
      cases b1
      · go_wp2
        go_ret
        have e0 : b0 = true := hb.out.1 (by omega)
        exact ⟨ret_bool (by first | rfl | simp [*]), hkx ▸ bb⟩
      · go_wp2
        go_roundg 2
        case measure => omega
        case rel => exact ⟨2, rfl, rfl, ⟨fun _ => hb.out.1 (by omega), fun _ => by first | rfl | trivial, fun h => absurd h (by omega), fun h => absurd h (by omega)⟩, X, bb⟩
    · obtain rfl : gk = 2 := by omega
      obtain ⟨x0, x1, x2, x3, x4, x5, _⟩ := X.six
      have hix : ∀ W : World, (Instr.index 85 (.agg #[.func (.func f0) #[] #[], .func (.func f1) #[] #[], .func (.func f2) #[] #[], .func (.func f3) #[] #[]]) (.int .i64 2)).run Try.prog W = .ok (.func (.func f2) #[] #[]) W := fun W => by kernel_rfl
      go_wp2_with fail
      refine (c2.out wr bb).mono ?_
      clear x0 x1 x2 x3 x4 x5 hix
      rintro e w3 ⟨rfl, bw3⟩
      replace X := X.under bw3
      replace bb := bb.trans (bw3.mono hbs)
      cases b2
      · go_wp2
        go_ret
        have e0 : b0 = true := hb.out.1 (by omega)
        have e1 : b1 = true := hb.out.2.1 (by omega)
        exact ⟨ret_bool (by first | rfl | simp [*]), hkx ▸ bb⟩
      · go_wp2
        go_roundg 1
        case measure => omega
        case rel => exact ⟨3, rfl, rfl, ⟨fun _ => hb.out.1 (by omega), fun _ => hb.out.2.1 (by omega), fun _ => by first | rfl | trivial, fun h => absurd h (by omega)⟩, X, bb⟩
    · obtain rfl : gk = 1 := by omega
      obtain ⟨x0, x1, x2, x3, x4, x5, _⟩ := X.six
      have hix : ∀ W : World, (Instr.index 85 (.agg #[.func (.func f0) #[] #[], .func (.func f1) #[] #[], .func (.func f2) #[] #[], .func (.func f3) #[] #[]]) (.int .i64 3)).run Try.prog W = .ok (.func (.func f3) #[] #[]) W := fun W => by kernel_rfl
      go_wp2_with fail
      refine (c3.out wr bb).mono ?_
      clear x0 x1 x2 x3 x4 x5 hix
      rintro e w3 ⟨rfl, bw3⟩
      replace X := X.under bw3
      replace bb := bb.trans (bw3.mono hbs)
      cases b3
      · go_wp2
        go_ret
        have e0 : b0 = true := hb.out.1 (by omega)
        have e1 : b1 = true := hb.out.2.1 (by omega)
        have e2 : b2 = true := hb.out.2.2.1 (by omega)
        exact ⟨ret_bool (by first | rfl | simp [*]), hkx ▸ bb⟩
      · go_wp2
        go_roundg 0
        case measure => omega
        case rel => exact ⟨4, rfl, rfl, ⟨fun _ => hb.out.1 (by omega), fun _ => hb.out.2.1 (by omega), fun _ => hb.out.2.2.1 (by omega), fun _ => by first | rfl | trivial⟩, X, bb⟩
    · have e0 : b0 = true := hb.out.1 (by omega)
      have e1 : b1 = true := hb.out.2.1 (by omega)
      have e2 : b2 = true := hb.out.2.2.1 (by omega)
      have e3 : b3 = true := hb.out.2.2.2 (by omega)
      go_wp2
      go_ret
      exact ⟨ret_bool (by rw [e0, e1, e2, e3]; rfl), hkx ▸ bb⟩
end Go.Proofs.Ytbhohjbgbachhaa
