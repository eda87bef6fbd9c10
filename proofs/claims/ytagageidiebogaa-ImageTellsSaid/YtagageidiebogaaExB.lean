/-
  Merged: XExt7 XExt8 XExt9.
-/
import Derived.Test.YtagageidiebogaaExA
import Derived.Test.YtagageidiebogaaExtRd
import Derived.Test.YtagageidiebogaaLeRef
import Derived.Test.YtagageidiebogaaGoto
/-
  Contract of first of package extent (written by gen_ext7.py).
-/
namespace Go.Wag
open Go.RowKit
set_option linter.unusedVariables false
theorem results_cell_tmp2x {fn : Func} {p u v : Tmp} {ty : TypeId} (h : fn.results = #[.cell p ty, .tmp u, .tmp v]) (tmps : Array Value) (P : Program) (w : World) :
    (results fn tmps).run P w =
      ((asAddr (tmps.getD p undef)).run P w).andThen fun a w₁ => ((loadVar ty a).run P w₁).andThen fun x w₂ => .ok (.tuple #[x, tmps.getD u undef, tmps.getD v undef]) w₂ := by
  simp only [results, h]
  simp [Sem.run_bind, Result.andThen]
theorem xchk_short {La N Kd G n M en : Nat} (hM : M = if Kd = 2 then 32 * N else 0) (he : en = 7 + M) (h7 : 7 ≤ n) (h : n < en) : xchk (La : Int) (N : Int) (Kd : Int) (G : Int) ((n - 7 : Nat) : Int) = false := by
  cases hx : xchk (La : Int) (N : Int) (Kd : Int) (G : Int) ((n - 7 : Nat) : Int)
  · rfl
  · exfalso
    have := xchk_all hx
    by_cases hk : Kd = 2
    · rw [if_pos hk] at hM
      have := this.2.2.2.2.2.2.2.1 (by omega)
      omega
    · rw [if_neg hk] at hM
      omega
theorem en_int {en M : Nat} (h : en = 7 + M) : 7 + (M : Int) = (en : Int) := by omega
theorem en_lt {en M n : Nat} (h : en = 7 + M) (hf : n < en) : (n : Int) < 7 + (M : Int) := by omega
theorem en_nlt {en M n : Nat} (h : en = 7 + M) (hf : ¬ n < en) : ¬ (n : Int) < 7 + (M : Int) := by omega
theorem en_7 {en M : Nat} (h : en = 7 + M) : 7 ≤ en := by omega
theorem en_sub {en : Nat} (h : 7 ≤ en) : 7 + (en - 7) = en := by omega
theorem la_max {La : Nat} (h : La < 256) : (La : Int) ≤ 9223372036854775807 := by omega
theorem fst_short {b : List UInt8} {n M en : Nat} (HN : b.length = n) (hM' : hM b = M) (h : en = 7 + M) (hf : n < en) : fstX b = none := fst_no (by rw [HN, hM']; omega)
theorem hX_full {b : List UInt8} {n M en : Nat} (HN : b.length = n) (hM' : hM b = M) (h : en = 7 + M) (hf : ¬ n < en) : (hX b).l.length = en - 7 := by
  rw [hX_len (by rw [HN, hM']; omega), hM', h]
  omega
theorem fst_full {b : List UInt8} {n M en : Nat} (HN : b.length = n) (hM' : hM b = M) (h : en = 7 + M) (hf : ¬ n < en) (ho : (hX b).ok = true) : fstX b = some (hX b, b.drop (7 + hM b)) := fst_yes ⟨by rw [HN]; omega, by rw [HN, hM']; omega, ho⟩
theorem dat_full {b : List UInt8} {M en : Nat} (hM' : hM b = M) (h : en = 7 + M) : (b.take en).drop 7 = (hX b).l := by
  rw [h, ← hM', List.drop_take]
  show _ = (b.drop 7).take (hM b)
  congr 1
  omega
theorem min_end (n M : Nat) : ∃ en : Nat, (if (n : Int) < 7 + (M : Int) then (n : Int) else 7 + (M : Int)) = (en : Int) ∧ (7 ≤ n → 7 ≤ en) ∧ en ≤ n ∧ en ≤ 7 + M ∧ (7 + M ≤ n → en = 7 + M) ∧ (¬ 7 + M ≤ n → en < 7 + M) := by
  by_cases h : n < 7 + M
  · exact ⟨n, by rw [if_pos (by omega)], by omega, by omega, by omega, by omega, by omega⟩
  · exact ⟨7 + M, by rw [if_neg (by omega)]; omega, by omega, by omega, by omega, by omega, by omega⟩
theorem wrap7 {M : Nat} (h : M ≤ 8160) : wrap64 (7 + (M : Int)) = 7 + (M : Int) := by unfold wrap64; omega
/-- Leaving with a struct that lives in a block, and two values beside it. -/
theorem ret_blk3x {P : Program} {w : World} {fn : Func} {R : Ending → World → Prop} {tmps : Array Value} {p u x : Tmp} {ty t : TypeId} {g : Nat} {cs : Array Value} {fs : Array Field} {v y : Value} (hr : fn.results = #[.cell p ty, .tmp u, .tmp x]) (hp : tmps.getD p undef = .pointer (some ⟨g, 0, none⟩))
    (hg : Blk w g cs t) (hu : P.underlying ty = some (.struct fs)) (hi : (P.info? ty).map (·.size) = some cs.size) (hv : tmps.getD u undef = v) (hy : tmps.getD x undef = y) (hR : R (.returned (.tuple #[.agg cs, v, y])) w) : bodyPost P fn R .ret ⟨tmps, []⟩ w := by
  refine bodyPost_ret ?_ rfl hR
  rw [results_cell_tmp2x hr, hp, hv, hy]
  simp [asAddr, run_loadVar_row w g t ty cs (0, 0) (.struct fs) hg hu rfl hi, Result.andThen]
/-- Four numbers that a call has made. -/
theorem nums4x {e : TypeId} {w w' : World} {A : Option Addr} {n c : Nat} {x0 x1 x2 x3 : UInt64} (h : Nw e w w' A n c ([x0, x1, x2, x3].map v64)) : ∃ g, A = some ⟨g, 0, none⟩ ∧ n = 4 ∧ 4 ≤ c ∧ c ≤ 9223372036854775807 ∧ w.heap.size ≤ g ∧ g < w'.heap.size ∧
    w'.cell? ⟨g, 0, none⟩ = some (.int .u64 (x0.toNat : Int)) ∧ w'.cell? ⟨g, 1, none⟩ = some (.int .u64 (x1.toNat : Int)) ∧ w'.cell? ⟨g, 2, none⟩ = some (.int .u64 (x2.toNat : Int)) ∧ w'.cell? ⟨g, 3, none⟩ = some (.int .u64 (x3.toNat : Int)) := by
  have hn : 4 = n := by simpa using h.1
  subst hn
  have h' := h
  rcases h.2 with ⟨_, h0⟩ | ⟨g, cap, cur, hv, hb, hg, hnc, hm, _⟩
  · cases h0
  · obtain ⟨rfl, rfl⟩ : A = some ⟨g, 0, none⟩ ∧ c = cap := by simpa using hv
    have hc := World.ownsRow.cells (g := g) h' rfl
    have e : ∀ j, ((⟨g, 0, none⟩ : Addr).add j) = ⟨g, j, none⟩ := fun j => by unfold Addr.add; split <;> simp_all
    refine ⟨g, rfl, rfl, hnc, by simpa [maxLen] using hm, hb, (Array.getElem?_eq_some_iff.1 hg).1, ?_, ?_, ?_, ?_⟩
    · rw [← e]; exact hc 0 _ rfl
    · rw [← e]; exact hc 1 _ rfl
    · rw [← e]; exact hc 2 _ rfl
    · rw [← e]; exact hc 3 _ rfl
theorem nums1x {e : TypeId} {w w' : World} {A : Option Addr} {n c : Nat} {x0 : UInt64} (h : Nw e w w' A n c ([x0].map v64)) : ∃ g, A = some ⟨g, 0, none⟩ ∧ n = 1 ∧ 1 ≤ c ∧ c ≤ 9223372036854775807 ∧ w.heap.size ≤ g ∧ g < w'.heap.size ∧
    w'.cell? ⟨g, 0, none⟩ = some (.int .u64 (x0.toNat : Int)) := by
  have hn : 1 = n := by simpa using h.1
  subst hn
  have h' := h
  rcases h.2 with ⟨_, h0⟩ | ⟨g, cap, cur, hv, hb, hg, hnc, hm, _⟩
  · cases h0
  · obtain ⟨rfl, rfl⟩ : A = some ⟨g, 0, none⟩ ∧ c = cap := by simpa using hv
    have hc := World.ownsRow.cells (g := g) h' rfl
    have e : ∀ j, ((⟨g, 0, none⟩ : Addr).add j) = ⟨g, j, none⟩ := fun j => by unfold Addr.add; split <;> simp_all
    refine ⟨g, rfl, rfl, hnc, by simpa [maxLen] using hm, hb, (Array.getElem?_eq_some_iff.1 hg).1, ?_⟩
    rw [← e]; exact hc 0 _ rfl
end Go.Wag
namespace Go.Proofs.Ytagageidiebogaa
open Go.RowKit Go.Wag
set_option linter.unusedVariables false
set_option maxRecDepth 20000
/-- What first answers: an extent in memory of its own, and the rest of what came in; or none. -/
def FstPost (w : World) (A : Option Addr) (n c : Nat) (r : Option (Xp × List UInt8)) (e : Ending) (w' : World) : Prop :=
  match r with
  | none => e = .returned (.tuple #[.agg #[.int .i64 0, .int .i64 0, .int .i64 0, .int .i64 0, .slice none 0 0], .slice none 0 0, .bool false]) ∧ Below w.heap.size w w'
  | some y => ∃ A' c', e = .returned (.tuple #[.agg #[.int .i64 y.1.la, .int .i64 y.1.n, .int .i64 y.1.k, .int .i64 y.1.g, .slice A' y.1.l.length c'], .slice (cutA A c (7 + y.1.l.length)) (n - (7 + y.1.l.length)) (c - (7 + y.1.l.length)), .bool true]) ∧ Nw 5 w w' A' y.1.l.length c' (y.1.l.map v8) ∧ Below w.heap.size w w'
theorem FstPost.mkNo {w w' : World} {A : Option Addr} {n c : Nat} {r : Option (Xp × List UInt8)} (hr : r = none) (hb : Below w.heap.size w w') : FstPost w A n c r (.returned (.tuple #[.agg #[.int .i64 0, .int .i64 0, .int .i64 0, .int .i64 0, .slice none 0 0], .slice none 0 0, .bool false])) w' := by
  subst hr
  exact ⟨rfl, hb⟩
theorem FstPost.mkYes {w w' : World} {A : Option Addr} {n c m : Nat} {r : Option (Xp × List UInt8)} {x : Xp} {t : List UInt8} {A' : Option Addr} {c' d : Nat} {la n1 k g : Int} (hr : r = some (x, t)) (h1 : x.la = la) (h2 : x.n = n1) (h3 : x.k = k) (h4 : x.g = g) (hd : x.l.length = d) (hm : 7 + d = m) (hN : Nw 5 w w' A' d c' (x.l.map v8)) (hb : Below w.heap.size w w') :
    FstPost w A n c r (.returned (.tuple #[.agg #[.int .i64 la, .int .i64 n1, .int .i64 k, .int .i64 g, .slice A' d c'], .slice (cutA A c m) (n - m) (c - m), .bool true])) w' := by
  subst hr h1 h2 h3 h4 hd hm
  exact ⟨A', c', rfl, hN, hb⟩
theorem FstPost.ok {P : Program} {f : FuncId} {args : Array Value} {w : World} {A : Option Addr} {n c : Nat} {r : Option (Xp × List UInt8)} {y : Xp × List UInt8} (h : Calls P f args w (FstPost w A n c r)) (hr : r = some y) : Calls P f args w (FstPost w A n c (some y)) := by
  subst hr
  exact h
theorem FstPost.no {P : Program} {f : FuncId} {args : Array Value} {w : World} {A : Option Addr} {n c : Nat} {r : Option (Xp × List UInt8)} (h : Calls P f args w (FstPost w A n c r)) (hr : r = none) : Calls P f args w (FstPost w A n c none) := by
  subst hr
  exact h
end Go.Proofs.Ytagageidiebogaa

/-
  Contract of the closure of package extent's Read (written by gen_ext8.py).
-/
namespace Go.Wag
open Go.RowKit
set_option linter.unusedVariables false
theorem grown_far {w w' : World} {r : Option Nat} (h : w.grownBy w' r) {a : Addr} (ha : w.heap.size ≤ a.block) (u : Value) : w.grownBy (w'.setCell a u) r := by
  have g := grown_set w' a u
  refine ⟨g.os.trans h.os, g.tape.trans h.tape, g.output.trans h.output, Nat.le_trans h.size g.size, fun i hi hne => ?_⟩
  refine (g.block i (Nat.lt_of_lt_of_le hi h.size) (fun e => ?_)).trans (h.block i hi hne)
  have := Option.some.inj e
  omega
theorem grown_here {w w' : World} {k : Nat} (h : w.grownBy w' (some k)) (i : Nat) (u : Value) : w.grownBy (w'.setCell ⟨k, i, none⟩ u) (some k) := by
  have g := grown_set w' ⟨k, i, none⟩ u
  exact ⟨g.os.trans h.os, g.tape.trans h.tape, g.output.trans h.output, Nat.le_trans h.size g.size, fun i hi hne => (g.block i (Nat.lt_of_lt_of_le hi h.size) hne).trans (h.block i hi hne)⟩
end Go.Wag
namespace Go.Proofs.Ytagageidiebogaa
open Go.RowKit Go.Wag
set_option linter.unusedVariables false
set_option maxRecDepth 20000
/-- What the closure answers: the next extent, and the variable cut to the rest. -/
def TakePost (w : World) (kl : Nat) (A : Option Addr) (n c : Nat) (r : Option (Xp × List UInt8)) (e : Ending) (w' : World) : Prop :=
  match r with
  | none => e = .returned (.tuple #[.agg #[.int .i64 0, .int .i64 0, .int .i64 0, .int .i64 0, .slice none 0 0], .bool false]) ∧ Blk w' kl #[.slice none 0 0] 37 ∧ w.grownBy w' (some kl)
  | some y => ∃ A' m c', Hid (m = y.1.l.length) ∧ e = .returned (.tuple #[.agg #[.int .i64 y.1.la, .int .i64 y.1.n, .int .i64 y.1.k, .int .i64 y.1.g, .slice A' m c'], .bool true]) ∧ Sl w' A' m c' (y.1.l.map v8) ∧ Fr w A' ∧
      Blk w' kl #[.slice (cutA A c (7 + m)) (n - (7 + m)) (c - (7 + m))] 37 ∧ w.grownBy w' (some kl)
theorem TakePost.mkNo {w w' : World} {kl : Nat} {A : Option Addr} {n c : Nat} {r : Option (Xp × List UInt8)} (hr : r = none) (hB : Blk w' kl #[.slice none 0 0] 37) (hg : w.grownBy w' (some kl)) : TakePost w kl A n c r (.returned (.tuple #[.agg #[.int .i64 0, .int .i64 0, .int .i64 0, .int .i64 0, .slice none 0 0], .bool false])) w' := by
  subst hr
  exact ⟨rfl, hB, hg⟩
theorem TakePost.mkYes {w w' : World} {kl : Nat} {A : Option Addr} {n c : Nat} {r : Option (Xp × List UInt8)} {x : Xp} {t : List UInt8} {A' : Option Addr} {m c' : Nat} (hr : r = some (x, t)) (hm : m = x.l.length) (hS : Sl w' A' m c' (x.l.map v8)) (hF : Fr w A')
    (hB : Blk w' kl #[.slice (cutA A c (7 + m)) (n - (7 + m)) (c - (7 + m))] 37) (hg : w.grownBy w' (some kl)) :
    TakePost w kl A n c r (.returned (.tuple #[.agg #[.int .i64 x.la, .int .i64 x.n, .int .i64 x.k, .int .i64 x.g, .slice A' m c'], .bool true])) w' := by
  subst hr
  exact ⟨A', m, c', hm, rfl, hS, hF, hB, hg⟩
end Go.Proofs.Ytagageidiebogaa

/-
  Contract of package extent's Read (written by gen_ext9.py).
-/
namespace Go.Wag
theorem xrd_short {b : List UInt8} {cc : UInt8} {t0 : List UInt8} (hb : b = cc :: t0) {k : Nat} (hk : k < cc.toNat) {xs : List Xp} {t : List UInt8} (hg : goX k t0 = some (xs, t)) (hf : fstX t = none) : xrd b = none := by
  subst hb
  have e : goX (k + 1) t0 = none := by rw [goX_snoc k t0 xs t hg, hf]; rfl
  rw [xrd_cons, goX_none hk e]
  rfl
theorem xrd_big {b : List UInt8} {cc : UInt8} {t0 : List UInt8} (hb : b = cc :: t0) (h : ¬ cc.toNat ≤ 64) : xrd b = none := by
  subst hb
  rw [xrd_cons]
  cases hg : goX cc.toNat t0 with
  | none => rfl
  | some y =>
    simp only [Option.bind_some]
    rw [if_neg (fun hh => h hh.2)]
theorem xrd_left {b : List UInt8} {cc : UInt8} {t0 : List UInt8} (hb : b = cc :: t0) {k : Nat} (hk : k = cc.toNat) {xs : List Xp} {t : List UInt8} (hg : goX k t0 = some (xs, t)) (ht : t.length > 0) : xrd b = none := by
  subst hb hk
  rw [xrd_cons, hg]
  simp only [Option.bind_some]
  rw [if_neg (fun hh => by rw [hh.1] at ht; simp at ht)]
theorem xrd_all {b : List UInt8} {cc : UInt8} {t0 : List UInt8} (hb : b = cc :: t0) {k : Nat} (hk : k = cc.toNat) (h64 : cc.toNat ≤ 64) {xs : List Xp} {t : List UInt8} (hg : goX k t0 = some (xs, t)) (ht : t.length = 0) : xrd b = some xs := by
  subst hb hk
  rw [xrd_cons, hg]
  simp only [Option.bind_some]
  rw [if_pos ⟨List.length_eq_zero_iff.1 ht, h64⟩]
theorem goX_next {t0 : List UInt8} {k : Nat} {xs : List Xp} {t t2 : List UInt8} {x : Xp} (hg : goX k t0 = some (xs, t)) (hf : fstX t = some (x, t2)) : goX (k + 1) t0 = some (xs ++ [x], t2) := by
  rw [goX_snoc k t0 xs t hg, hf]
  rfl
end Go.Wag
namespace Go.Proofs.Ytagageidiebogaa
open Go.RowKit Go.Wag
set_option linter.unusedVariables false
set_option maxRecDepth 20000
/-- Extents in memory of their own, or an error. -/
def RdPost (w : World) (r : Option (List Xp)) (e : Ending) (w' : World) : Prop :=
  ∃ A k c, Hid (k = (r.getD []).length) ∧ e = .returned (.tuple #[.slice A k c, .int .i64 (errOf r 70)]) ∧ Rs extE (fun x => w.heap.size ≤ x) w' A k c (r.getD []) ∧ Below w.heap.size w w'
theorem RdPost.no {w w' : World} {r : Option (List Xp)} (hr : r = none) (hb : Below w.heap.size w w') : RdPost w r (.returned (.tuple #[.slice none 0 0, .int .i64 70])) w' := by
  subst hr
  exact ⟨none, 0, 0, rfl, rfl, Rs.nil _ _ _, hb⟩
theorem RdPost.yes {w w' : World} {r : Option (List Xp)} {xs : List Xp} {A : Option Addr} {k c : Nat} (hr : r = some xs) (hk : k = xs.length) (hR : Rs extE (fun x => w.heap.size ≤ x) w' A k c xs) (hb : Below w.heap.size w w') : RdPost w r (.returned (.tuple #[.slice A k c, .int .i64 0])) w' := by
  subst hr
  exact ⟨A, k, c, hk, rfl, hR, hb⟩
end Go.Proofs.Ytagageidiebogaa
