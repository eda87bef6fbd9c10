/-
  Contracts of package change: what each of a rule's functions answers (written by gen_ch1.py).
-/
import Derived.Test.YtbhohjbgbachhaaExt1
import Derived.Test.YtbhohjbgbachhaaChMath
import Derived.Test.YtbhohjbgbachhaaStrs
import Derived.Test.YtbhohjbgbachhaaRef7b
import Derived.Deep.LoopGhost
import Derived.Deep.WholeRow
import Derived.Test.YtbhohjbgbachhaaArr
import Derived.Laws.Rows
import Derived.Laws.Tables
namespace Go.Wag
theorem Blk.six {w : World} {k : Nat} {t : TypeId} {v0 v1 v2 v3 v4 v5 : Value} (h : Blk w k #[v0, v1, v2, v3, v4, v5] t) : w.cell? ⟨k, 0, none⟩ = some v0 ∧ w.cell? ⟨k, 1, none⟩ = some v1 ∧ w.cell? ⟨k, 2, none⟩ = some v2 ∧ w.cell? ⟨k, 3, none⟩ = some v3 ∧ w.cell? ⟨k, 4, none⟩ = some v4 ∧ w.cell? ⟨k, 5, none⟩ = some v5 ∧
    w.frozen? ⟨k, 0, none⟩ = false ∧ w.frozen? ⟨k, 1, none⟩ = false ∧ w.frozen? ⟨k, 2, none⟩ = false ∧ w.frozen? ⟨k, 3, none⟩ = false ∧ w.frozen? ⟨k, 4, none⟩ = false ∧ w.frozen? ⟨k, 5, none⟩ = false :=
  ⟨h.cell 0, h.cell 1, h.cell 2, h.cell 3, h.cell 4, h.cell 5, h.frozen 0, h.frozen 1, h.frozen 2, h.frozen 3, h.frozen 4, h.frozen 5⟩
end Go.Wag
namespace Go.Proofs.Ytbhohjbgbachhaa
open Go.RowKit Go.Wag
set_option linter.unusedVariables false
set_option maxRecDepth 20000
theorem chBlk_any (k la n i : Int) (Ad : Option Addr) (md cd : Nat) (Al : Option Addr) (ml cl : Nat) (w : World) (hla : la ≤ 9223372036854775807) : Calls Try.prog 82 #[.agg #[.int .i64 k, .int .i64 la, .int .i64 n, .int .i64 i, .slice Ad md cd, .slice Al ml cl]] w fun e w' => e = .returned (.bool (decide (0 ≤ la ∧ 1 ≤ n ∧ la + n ≤ 64))) ∧ Below w.heap.size w w' := by
  by_cases h0 : la ≥ 0
  · by_cases h1 : n ≥ 1
    · have h2 : wrap64 (64 - la) = 64 - la := by unfold wrap64; omega
      go_enter Try.func82, Try.ntmps82
      go_wp2
      go_ret
      exact ⟨ret_bool (by rw [Bool.eq_iff_iff]; simp <;> omega), (Below.refl _ _).alloc (Nat.le_refl _) _⟩
    · skip
      go_enter Try.func82, Try.ntmps82
      go_wp2
      go_ret
      exact ⟨ret_bool (by rw [Bool.eq_iff_iff]; simp <;> omega), (Below.refl _ _).alloc (Nat.le_refl _) _⟩
  · skip
    go_enter Try.func82, Try.ntmps82
    go_wp2
    go_ret
    exact ⟨ret_bool (by rw [Bool.eq_iff_iff]; simp <;> omega), (Below.refl _ _).alloc (Nat.le_refl _) _⟩
theorem chNoBlk_any (k la n i : Int) (Ad : Option Addr) (md cd : Nat) (Al : Option Addr) (ml cl : Nat) (w : World) : Calls Try.prog 87 #[.agg #[.int .i64 k, .int .i64 la, .int .i64 n, .int .i64 i, .slice Ad md cd, .slice Al ml cl]] w fun e w' => e = .returned (.bool (decide (la = 0 ∧ n = 0))) ∧ Below w.heap.size w w' := by
  by_cases h0 : la = 0
  · subst h0
    go_enter Try.func87, Try.ntmps87
    go_wp2
    go_ret
    exact ⟨ret_bool (by rw [Bool.eq_iff_iff]; simp <;> omega), (Below.refl _ _).alloc (Nat.le_refl _) _⟩
  · have h1 : (la == 0) = false := by simpa using h0
    go_enter Try.func87, Try.ntmps87
    go_wp2
    go_ret
    exact ⟨ret_bool (by rw [Bool.eq_iff_iff]; simp <;> omega), (Below.refl _ _).alloc (Nat.le_refl _) _⟩
theorem chId_any (k la n i : Int) (Ad : Option Addr) (md cd : Nat) (Al : Option Addr) (ml cl : Nat) (w : World) : Calls Try.prog 88 #[.agg #[.int .i64 k, .int .i64 la, .int .i64 n, .int .i64 i, .slice Ad md cd, .slice Al ml cl]] w fun e w' => e = .returned (.bool (decide (1 ≤ i ∧ i ≤ 2147483647))) ∧ Below w.heap.size w w' := by
  by_cases h0 : i ≥ 1
  · skip
    go_enter Try.func88, Try.ntmps88
    go_wp2
    go_ret
    exact ⟨ret_bool (by rw [Bool.eq_iff_iff]; simp <;> omega), (Below.refl _ _).alloc (Nat.le_refl _) _⟩
  · skip
    go_enter Try.func88, Try.ntmps88
    go_wp2
    go_ret
    exact ⟨ret_bool (by rw [Bool.eq_iff_iff]; simp <;> omega), (Below.refl _ _).alloc (Nat.le_refl _) _⟩
theorem chNoId_any (k la n i : Int) (Ad : Option Addr) (md cd : Nat) (Al : Option Addr) (ml cl : Nat) (w : World) : Calls Try.prog 83 #[.agg #[.int .i64 k, .int .i64 la, .int .i64 n, .int .i64 i, .slice Ad md cd, .slice Al ml cl]] w fun e w' => e = .returned (.bool (decide (i = 0))) ∧ Below w.heap.size w w' := by
  go_enter Try.func83, Try.ntmps83
  go_wp2
  go_ret
  exact ⟨ret_bool (by rw [Bool.eq_iff_iff]; simp), (Below.refl _ _).alloc (Nat.le_refl _) _⟩
theorem chTheirs_any (k la n i : Int) (Ad : Option Addr) (md cd : Nat) (Al : Option Addr) (ml cl : Nat) (w : World) : Calls Try.prog 84 #[.agg #[.int .i64 k, .int .i64 la, .int .i64 n, .int .i64 i, .slice Ad md cd, .slice Al ml cl]] w fun e w' => e = .returned (.bool (decide ((md : Int) = wrap64 (n * 32)))) ∧ Below w.heap.size w w' := by
  go_enter Try.func84, Try.ntmps84
  go_wp2
  go_ret
  exact ⟨ret_bool (by rw [Bool.eq_iff_iff]; simp), (Below.refl _ _).alloc (Nat.le_refl _) _⟩
theorem chPart_any (k la n i : Int) (Ad : Option Addr) (md cd : Nat) (Al : Option Addr) (ml cl : Nat) (w : World) : Calls Try.prog 89 #[.agg #[.int .i64 k, .int .i64 la, .int .i64 n, .int .i64 i, .slice Ad md cd, .slice Al ml cl]] w fun e w' => e = .returned (.bool (decide (1 ≤ (md : Int) ∧ (md : Int) ≤ 1000))) ∧ Below w.heap.size w w' := by
  by_cases h0 : (md : Int) ≥ 1
  · skip
    go_enter Try.func89, Try.ntmps89
    go_wp2
    go_ret
    exact ⟨ret_bool (by rw [Bool.eq_iff_iff]; simp <;> omega), (Below.refl _ _).alloc (Nat.le_refl _) _⟩
  · skip
    go_enter Try.func89, Try.ntmps89
    go_wp2
    go_ret
    exact ⟨ret_bool (by rw [Bool.eq_iff_iff]; simp <;> omega), (Below.refl _ _).alloc (Nat.le_refl _) _⟩
theorem chNoData_any (k la n i : Int) (Ad : Option Addr) (md cd : Nat) (Al : Option Addr) (ml cl : Nat) (w : World) : Calls Try.prog 86 #[.agg #[.int .i64 k, .int .i64 la, .int .i64 n, .int .i64 i, .slice Ad md cd, .slice Al ml cl]] w fun e w' => e = .returned (.bool (decide (md = 0))) ∧ Below w.heap.size w w' := by
  go_enter Try.func86, Try.ntmps86
  go_wp2
  go_ret
  exact ⟨ret_bool (by rw [Bool.eq_iff_iff]; simp), (Below.refl _ _).alloc (Nat.le_refl _) _⟩
theorem chNoList_any (k la n i : Int) (Ad : Option Addr) (md cd : Nat) (Al : Option Addr) (ml cl : Nat) (w : World) : Calls Try.prog 85 #[.agg #[.int .i64 k, .int .i64 la, .int .i64 n, .int .i64 i, .slice Ad md cd, .slice Al ml cl]] w fun e w' => e = .returned (.bool (decide (ml = 0))) ∧ Below w.heap.size w w' := by
  go_enter Try.func85, Try.ntmps85
  go_wp2
  go_ret
  exact ⟨ret_bool (by rw [Bool.eq_iff_iff]; simp), (Below.refl _ _).alloc (Nat.le_refl _) _⟩
/-- Whether extents stand one behind the other. -/
theorem clist_drop {l : List Xp} {k : Nat} {x : Xp} {a : Int} (h : l[k]? = some x) : clist a (l.drop k) = (x.ok && (decide (a ≤ x.la) && clist (x.la + x.n) (l.drop (k + 1)))) := by
  obtain ⟨p1, rfl⟩ := List.getElem?_eq_some_iff.1 h
  rw [List.drop_eq_getElem_cons p1, clist]
set_option maxHeartbeats 1000000 in
theorem chList_any {F : Nat → Prop} (k la n i : Int) (Ad : Option Addr) (md cd : Nat) (Al : Option Addr) (ml cl : Nat) (xs : List Xp) (w : World) (h : Rs extE F w Al ml cl xs) (hla : ∀ x ∈ xs, x.la ≤ 9223372036854775807) :
    Calls Try.prog 90 #[.agg #[.int .i64 k, .int .i64 la, .int .i64 n, .int .i64 i, .slice Ad md cd, .slice Al ml cl]] w fun e w' => e = .returned (.bool (clist 0 xs)) ∧ Below w.heap.size w w' := by
  have HN : Hid (xs.length = ml) := h.len
  have hcap := h.cap
  have hbig := h.big
  replace hla := Lib.hid hla
  go_enter Try.func90, Try.ntmps90
  go_wp2_with fail
  go_loopg [3, 9] ml (fun g a j wr => ∃ (q : Nat) (z : Int), q + g = ml ∧ a = .int .i64 z ∧ 0 ≤ z ∧ z ≤ 64 ∧ j = .int .i64 (q : Int) ∧ Hid (clist 0 xs = clist z (xs.drop q)) ∧ Below w.heap.size w wr)
  case atStart => exact ⟨0, 0, by omega, rfl, by omega, by omega, rfl, rfl, (Below.refl _ _).alloc (Nat.le_refl _) _⟩
  case round =>
    obtain ⟨q, z, hq, rfl, hz0, hz1, rfl, hx, bb⟩ := hrel
    by_cases hlt : (q : Int) < (ml : Int)
    · obtain ⟨g, rfl⟩ : ∃ g, gk = g + 1 := ⟨gk - 1, by omega⟩
      obtain ⟨gb, o, x, Ai, ci, rfl, _, hg, hz, c0, c1, c2, c3, c4, hS, _⟩ := (h.below bb).ext_at (show q < ml by omega)
      have hd := Lib.hid (clist_drop (a := z) hz)
      have hxla : x.la ≤ 9223372036854775807 := hla.out x (List.mem_of_getElem? hz)
      clear hz
      go_wp2_with fail
      refine (eCheck_any x.la x.n x.k x.g Ai x.l.length ci _ hxla).mono ?_
      rintro e w2 ⟨rfl, b2⟩
      have X := (Blk.new wr #[.int .i64 x.la, .int .i64 x.n, .int .i64 x.k, .int .i64 x.g, .slice Ai x.l.length ci] 50).under b2
      obtain ⟨q0, q1, q2, q3, q4, _⟩ := X.five
      replace bb := (bb.alloc bb.size (.cells #[.int .i64 x.la, .int .i64 x.n, .int .i64 x.k, .int .i64 x.g, .slice Ai x.l.length ci] 50)).trans (b2.mono (bb.alloc bb.size _).size)
      cases r1 : xchk x.la x.n x.k x.g x.l.length
      · have hf : clist 0 xs = false := by
          rw [hx.out, hd.out, show x.ok = false from r1]
          rfl
        replace hf := Lib.hid hf
        go_wp2
        go_ret
        exact ⟨ret_bool hf.out.symm, bb⟩
      · obtain ⟨a1, a2, a3, a4, a5, a6, a7, a8, a9⟩ := xchk_all r1
        by_cases hlz : x.la < z
        · have hf : clist 0 xs = false := by
            rw [hx.out, hd.out, decide_eq_false (by omega), Bool.false_and, Bool.and_false]
          replace hf := Lib.hid hf
          go_wp2
          go_ret
          exact ⟨ret_bool hf.out.symm, bb⟩
        · have hf : clist 0 xs = clist (x.la + x.n) (xs.drop (q + 1)) := by
            rw [hx.out, hd.out, show x.ok = true from r1, decide_eq_true (by omega), Bool.true_and, Bool.true_and]
          replace hf := Lib.hid hf
          have hws : wrap64 (x.la + x.n) = x.la + x.n := by unfold wrap64; omega
          go_wp2
          go_roundg g
          case measure => omega
          case rel => exact ⟨q + 1, x.la + x.n, by omega, by first | rfl | (simp; done), by omega, by omega, by first | rfl | (simp; done) | (simp; exact wrap64_small (by omega) (by omega)), hf, bb⟩
    · have hf : clist 0 xs = true := by
        rw [hx.out, List.drop_eq_nil_of_le (by rw [HN.out]; omega)]
        rfl
      replace hf := Lib.hid hf
      go_wp2
      go_ret
      exact ⟨ret_bool hf.out.symm, bb⟩
/-- The functions of a rule; those of all Kinds. -/
@[reducible] def fnV (f : FuncId) : Value := .func (.func f) #[] #[]
@[reducible] def rulesA : Array Value := #[.nilFunc, .nilFunc, .nilFunc, .nilFunc, fnV 82, fnV 83, fnV 84, fnV 85, fnV 82, fnV 83, fnV 86, fnV 85, fnV 82, fnV 83, fnV 86, fnV 85, fnV 87, fnV 88, fnV 86, fnV 85, fnV 87, fnV 88, fnV 86, fnV 85, fnV 87, fnV 83, fnV 89, fnV 85, fnV 87, fnV 83, fnV 86, fnV 85, fnV 87, fnV 88, fnV 86, fnV 90]
theorem sz_rules : (Try.prog.info? 88).map (·.size) = some rulesA.size := by kernel_rfl
theorem one_rules : rulesA.all (·.oneCell') = true := by kernel_rfl
theorem ret_arr {P : Program} {fn : Func} {R : Ending → World → Prop} {tmps : Array Value} {p : Tmp} {ty t e : TypeId} {g m : Nat} {cs : Array Value} {w : World} (hr : fn.results = #[.cell p ty]) (hp : tmps.getD p undef = .pointer (some ⟨g, 0, none⟩))
    (hg : Blk w g cs t) (hu : P.underlying ty = some (.array m e)) (hi : (P.info? ty).map (·.size) = some cs.size) (hR : R (.returned (.agg cs)) w) : bodyPost P fn R .ret ⟨tmps, []⟩ w :=
  bodyPost_ret (results_cell_row hr tmps w g t cs (0, 0) (.array m e) hp hg hu rfl hi) rfl hR
theorem chRules_any (w : World) : Calls Try.prog 58 #[] w fun e w' => e = .returned (.agg rulesA) ∧ Below w.heap.size w w' := by
  go_enter Try.func58, Try.ntmps58
  go_wp2_with (with_reducible refine wpList_store_row rfl 88 (.tmp 0) (.tmp 17) rfl w.heap.size rulesA rfl rfl 88 _ (heap_alloc_last w _) sz_rules rfl one_rules ?_)
  simp only [World.setRow_alloc_new]
  refine ret_arr rfl rfl (Blk.new w rulesA 88) Try.underlying88 sz_rules ⟨rfl, (Below.refl _ _).alloc (Nat.le_refl _) _⟩
end Go.Proofs.Ytbhohjbgbachhaa
